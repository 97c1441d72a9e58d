import PyProof.Rows.All
import Wide.All
import OpenK.AllK
import Wide.FinOn
import HandS.ExcCtx
import HandS.ForMost
import HandS.ForExc
import HandS.AnyAll
import HandS.Deep
import HandS.Wide
import HandS.TupAny
import HandS.IsInst
import PyProof.DictKinds
import HandS.DictComp
import HandS.Lambda
import KE.SortData
import HandS.GenList
import HandS.Conv
import HandS.EndTab
import HandS.TupLe
import KE.GoesEnum
import KE.DataMinKey
import KE.KLam
import KE.DataMinMax
import HandS.SetFor
import HandS.Strs
import KE.KExcIs
import KE.KTupSum
import KE.KExcPX
import KE.KExcInit
import KE.KExcSuper
import OpenK.KCls
import HandS.HotCalls
import HandS.SortKw
import KE.GoesEnumKw
import KE.KDictDisplayH
import HandS.NamedTupSort
import HandS.SetBool
import HandS.TupSets
import HandS.RepeatKit
import HandS.MapObj
import PyProof.ListNew
import PyProof.Rows.SortShell
import HandS.ExcValue
import HandS.ExcInit
import PyProof.AutoListH
import PyProof.ListIndexOut
import HandS.CallSlots
import PySem.Challenge.RW_takersrest_k36_whole_pieces
set_option Elab.async false
set_option linter.all false
set_option maxRecDepth 100000
set_option maxHeartbeats 1000000
namespace PD
open PySem PySem.Spec PyProof.Rows L2
structure Ex where
  cls : Addr
  fs : List (Str × PyData)
inductive R (α : Type) where
  | ok (a : α)
  | exc (e : Ex)
  | bad
def R.bind {α β : Type} (x : R α) (f : α → R β) : R β := match x with
  | .ok a => f a
  | .exc e => .exc e
  | .bad => .bad
instance : Monad R where
  pure := .ok
  bind := R.bind
@[simp] theorem R.bind_ok {α β : Type} (a : α) (f : α → R β) : (R.ok a >>= f) = f a := rfl
@[simp] theorem R.bind_exc {α β : Type} (e : Ex) (f : α → R β) : ((R.exc e : R α) >>= f) = R.exc e := rfl
@[simp] theorem R.bind_bad {α β : Type} (f : α → R β) : ((R.bad : R α) >>= f) = R.bad := rfl
@[simp] theorem R.pure_eq {α : Type} (a : α) : (pure a : R α) = R.ok a := rfl
/-- the table of a code object at P: what it tells are code objects that are known -/
def TabC (H : Hp) (P : Addr) : Prop := ∃ ps : Array Value, H P = some (.tbl ps) ∧ TriplesOk ps.toList ∧ ∀ (pos : Pos) (cv : Value), codeAmong pos ps.toList = some cv → ∃ c q, cv = .ref c ∧ H c = some (LamX.CodeO c q)
theorem TabC.mono {H H' : Hp} {b : Addr} (t : TabC H b) (e : ∀ ps, H b = some (.tbl ps) → H' b = some (.tbl ps)) (k : ∀ c q, H c = some (LamX.CodeO c q) → H' c = some (LamX.CodeO c q)) : TabC H' b := by
  obtain ⟨ps, h, z, q⟩ := t
  refine ⟨ps, e ps h, z, fun pos cv hc => ?_⟩
  obtain ⟨c, n, e1, e2⟩ := q pos cv hc
  exact ⟨c, n, e1, k c n e2⟩
theorem TabC.nil {H : Hp} {b : Addr} (h : H b = some (.tbl #[])) : TabC H b := ⟨#[], h, True.intro, fun pos cv hc => by
  have z : codeAmong pos [] = some cv := hc
  simp [codeAmong] at z⟩
/-- an object that is no code object and no table -/
def Plain (o : HO) : Prop := (∀ c q, o ≠ LamX.CodeO c q) ∧ ∀ ps, o ≠ .tbl ps
theorem plain_lst (l : List V) : Plain (.lst l) := ⟨fun _ _ h => (by unfold LamX.CodeO at h; cases h), fun _ h => (by cases h)⟩
structure Ext (H H' : Hp) : Prop where
  keep : ∀ b o, H b = some o → (∀ ps, o ≠ .tbl ps) → H' b = some o
  tab : ∀ b, TabC H b → TabC H' b
  al : ∀ b, H b ≠ none → H' b ≠ none
theorem Ext.refl (H : Hp) : Ext H H := ⟨fun _ _ h _ => h, fun _ h => h, fun _ h => h⟩
theorem Ext.trans {H H1 H2 : Hp} (a : Ext H H1) (b : Ext H1 H2) : Ext H H2 :=
  ⟨fun c o h n => b.keep c o (a.keep c o h n) n, fun c h => b.tab c (a.tab c h), fun c h => b.al c (a.al c h)⟩
theorem Ext.new {H : Hp} {p : Addr} {o : HO} (h : H p = none) : Ext H (upd H p o) := by
  refine ⟨fun b x e n => ?_, fun b t => ?_, fun b e => ?_⟩
  · rw [upd_ne (ne_of_none e h)]; exact e
  · exact t.mono (fun ps e => by rw [upd_ne (ne_of_none e h)]; exact e) fun c q e => by rw [upd_ne (ne_of_none e h)]; exact e
  · by_cases hb : b = p
    · rw [hb, upd_same]; simp
    · rw [upd_ne hb]; exact e
/-- the heap without the addresses O -/
def hide (O : List Addr) (H : Hp) : Hp := fun b => if b ∈ O then none else H b
theorem hide_out {O : List Addr} {H : Hp} {b : Addr} (h : b ∉ O) : hide O H b = H b := by unfold hide; rw [if_neg h]
theorem hide_some {O : List Addr} {H : Hp} {b : Addr} {o : HO} (h : hide O H b = some o) : b ∉ O ∧ H b = some o := by
  unfold hide at h
  split at h
  · cases h
  · exact ⟨by assumption, h⟩
/-- what reading data leans on -/
def Sub (G G' : Hp) : Prop := ∀ b o, G b = some o → (∀ ps, o ≠ .tbl ps) → G' b = some o
theorem Sub.trans {G G1 G2 : Hp} (a : Sub G G1) (b : Sub G1 G2) : Sub G G2 := fun c o h n => b c o (a c o h n) n
theorem Sub.ext {H H' : Hp} (e : Ext H H') : Sub H H' := e.keep
theorem Sub.hide {O : List Addr} {H H' : Hp} (e : Sub H H') : Sub (hide O H) (PD.hide O H') := fun b o h n => by
  obtain ⟨h1, h2⟩ := hide_some h
  rw [hide_out h1]
  exact e b o h2 n
theorem Sub.less {O O' : List Addr} {H : Hp} (e : ∀ b ∈ O', b ∈ O) : Sub (PD.hide O H) (PD.hide O' H) := fun b o h n => by
  obtain ⟨h1, h2⟩ := hide_some h
  rw [hide_out fun m => h1 (e b m)]
  exact h2
theorem Sub.unhide {O : List Addr} {H : Hp} : Sub (PD.hide O H) H := fun b o h n => (hide_some h).2
theorem Sub.sqL {K : PySem.W.Frag} {G G' : Hp} {a : Addr} {xs : List V} (s : Sub G G') (h : SqL K G a xs) : SqL K G' a xs := by
  rcases h with (h | ⟨o, h⟩) | h
  · exact .inl (.inl (s _ _ h fun _ q => by cases q))
  · exact .inl (.inr ⟨o, s _ _ h fun _ q => by cases q⟩)
  · exact .inr h
theorem Sub.sqT {K : PySem.W.Frag} {G G' : Hp} {a : Addr} {xs : List V} (s : Sub G G') (h : SqT K G a xs) : SqT K G' a xs := by
  rcases h with (h | ⟨o, h⟩) | h
  · exact .inl (.inl (s _ _ h fun _ q => by cases q))
  · exact .inl (.inr ⟨o, s _ _ h fun _ q => by cases q⟩)
  · exact .inr h
abbrev ikt (P : Program) (w : World) : HeapKind P w (List Int) := tupleKind (intKind P w)
def dctO (a : Addr) (ep : Nat) (xs : List (List Int × Addr)) : HO := .ext fun h => (a == sysModules) = false ∧ xs.length ≤ sizeLine ∧ (xs.map (·.1)).Nodup ∧
  ∃ o es, h.get? a = some o ∧ o.ExactDict ∧ o.data = .dict es ep ∧ ∀ (P : Program) (w : World), es.toList = xs.map fun x => entryOfKey (ikt P w) (x.1, x.2, .bool true)
def dctE (x : List Int × Addr) : PyData × PyData := (.tuple (x.1.map .int), .bool true)
mutual
def nod : PyData → Bool
  | .none | .bool _ | .int _ | .str _ => true
  | .list xs | .tuple xs => nodAll xs
  | .dict _ => false
def nodAll : List PyData → Bool
  | [] => true
  | x :: xs => nod x && nodAll xs
end
mutual
theorem nod_of_lay : ∀ {d : PyData}, d.canLay0 = true → nod d = true
  | .none, _ => rfl
  | .bool _, _ => rfl
  | .int _, _ => rfl
  | .str _, _ => rfl
  | .list xs, h => nodAll_of_lay (xs := xs) h
  | .tuple xs, h => nodAll_of_lay (xs := xs) h
  | .dict _, h => by cases h
theorem nodAll_of_lay : ∀ {xs : List PyData}, PyData.canLayAll0 xs = true → nodAll xs = true
  | [], _ => rfl
  | x :: xs, h => by
    have h : (x.canLay0 && PyData.canLayAll0 xs) = true := h
    show (nod x && nodAll xs) = true
    rw [Bool.and_eq_true] at h ⊢
    exact ⟨nod_of_lay h.1, nodAll_of_lay h.2⟩
end
def dkD (ks : List (Int × PyData)) : PyData := .dict ((.bool true, .none) :: ks.map fun x => (.int x.1, x.2))
def obD (C : Addr) (fs : List (Str × PyData)) : PyData := .dict ((.none, .int (C : Int)) :: fs.map fun x => (.str x.1, x.2))
mutual
inductive Rp (K : PySem.W.Frag) (G : Hp) : V → PyData → Prop
  | non : Rp K G .non .none
  | bl (b : Bool) : Rp K G (.bl b) (.bool b)
  | int (i : Int) : Rp K G (.int i) (.int i)
  | str (x : Str) : Rp K G (.str x) (.str x)
  | lst {a : Addr} {xs : List V} {ds : List PyData} : SqL K G a xs → ds.length ≤ sizeLine → RpAll K G xs ds → Rp K G (.ref a) (.list ds)
  | tup {a : Addr} {xs : List V} {ds : List PyData} : SqT K G a xs → ds.length ≤ sizeLine → RpAll K G xs ds → Rp K G (.ref a) (.tuple ds)
  | dct {a : Addr} {ep : Nat} {xs : List (List Int × Addr)} : G a = some (dctO a ep xs) → (∀ x ∈ xs, SqT K G x.2 (x.1.map V.int)) → Rp K G (.ref a) (.dict (xs.map dctE))
  | dk {a : Addr} {o : Obj} {kvs : List (Key × V)} {ks : List (Int × PyData)} : G a = some (.frz o (.dK kvs)) → kvs.map (·.1) = ks.map (fun x => Sum.inl x.1) → RpAll K G (kvs.map (·.2)) (ks.map (·.2)) → Rp K G (.ref a) (dkD ks)
  | ins {a C dx : Addr} {fs : List (Str × V)} {ds : List (Str × PyData)} : G a = some (.ins C dx fs) → fs.map (·.1) = ds.map (·.1) → RpAll K G (fs.map (·.2)) (ds.map (·.2)) → Rp K G (.ref a) (obD C ds)
inductive RpAll (K : PySem.W.Frag) (G : Hp) : List V → List PyData → Prop
  | nil : RpAll K G [] []
  | cons {v : V} {vs : List V} {d : PyData} {ds : List PyData} : Rp K G v d → RpAll K G vs ds → RpAll K G (v :: vs) (d :: ds)
end
section
variable {K : PySem.W.Frag} {G G' : Hp}
theorem Rp.mono (s : Sub G G') {d : PyData} {v : V} (h : Rp K G v d) : Rp K G' v d :=
  Rp.rec (motive_1 := fun v d _ => Rp K G' v d) (motive_2 := fun vs ds _ => RpAll K G' vs ds) .non (fun b => .bl b) (fun i => .int i) (fun x => .str x)
    (fun a z _ b => .lst (s.sqL a) z b) (fun a z _ b => .tup (s.sqT a) z b) (fun a b => .dct (s _ _ a (fun _ q => by cases q)) fun x hx => s.sqT (b x hx))
    (fun a b _ c => .dk (s _ _ a (fun _ q => by cases q)) b c) (fun a b _ c => .ins (s _ _ a (fun _ q => by cases q)) b c) .nil (fun _ _ a b => .cons a b) h
theorem RpAll.mono (s : Sub G G') : ∀ {ds : List PyData} {vs : List V}, RpAll K G vs ds → RpAll K G' vs ds
  | [], _, h => by cases h; exact .nil
  | _ :: _, _, h => by
    cases h with
    | cons a b => exact .cons (Rp.mono s a) (RpAll.mono s b)
mutual
theorem Rp.dp : ∀ {d : PyData} {v : V}, Rp K G v d → nod d = true → Dp K G v d
  | .none, _, h, _ => by cases h; exact .non
  | .bool _, _, h, _ => by cases h; exact .bl _
  | .int _, _, h, _ => by cases h; exact .int _
  | .str _, _, h, _ => by cases h; exact .str _
  | .list _, _, h, n => by
    cases h with
    | lst a z b => exact .lst a (RpAll.dp b n)
  | .tuple _, _, h, n => by
    cases h with
    | tup a z b => exact .tup a (RpAll.dp b n)
  | .dict _, _, h, n => by cases n
theorem RpAll.dp : ∀ {ds : List PyData} {vs : List V}, RpAll K G vs ds → nodAll ds = true → DpAll K G vs ds
  | [], _, h, _ => by cases h; exact .nil
  | d :: ds, _, h, n => by
    have n : (nod d && nodAll ds) = true := n
    rw [Bool.and_eq_true] at n
    cases h with
    | cons a b => exact .cons (Rp.dp a n.1) (RpAll.dp b n.2)
end
mutual
theorem Rp.shaped : ∀ {d : PyData} {v : V}, Rp K G v d → True := fun _ => trivial
end
theorem RpAll.length : ∀ {vs : List V} {ds : List PyData}, RpAll K G vs ds → vs.length = ds.length
  | _, _, .nil => rfl
  | _, _, .cons _ t => by simp [RpAll.length t]
theorem RpAll.get : ∀ {vs : List V} {ds : List PyData} {i : Nat} {v : V}, RpAll K G vs ds → vs[i]? = some v → ∃ d, ds[i]? = some d ∧ Rp K G v d
  | _, _, _, _, .nil, h => by simp at h
  | _, _, 0, _, .cons r _, h => by simp at h; subst h; exact ⟨_, rfl, r⟩
  | _, _, i + 1, _, .cons _ t, h => by
    obtain ⟨d, h1, h2⟩ := RpAll.get (i := i) t (by simpa using h)
    exact ⟨d, by simpa using h1, h2⟩
theorem RpAll.get' : ∀ {vs : List V} {ds : List PyData} {i : Nat} {d : PyData}, RpAll K G vs ds → ds[i]? = some d → ∃ v, vs[i]? = some v ∧ Rp K G v d
  | _, _, _, _, .nil, h => by simp at h
  | _, _, 0, _, .cons r _, h => by simp at h; subst h; exact ⟨_, rfl, r⟩
  | _, _, i + 1, _, .cons _ t, h => by
    obtain ⟨d, h1, h2⟩ := RpAll.get' (i := i) t (by simpa using h)
    exact ⟨d, by simpa using h1, h2⟩
theorem RpAll.append : ∀ {vs ws : List V} {ds es : List PyData}, RpAll K G vs ds → RpAll K G ws es → RpAll K G (vs ++ ws) (ds ++ es)
  | _, _, _, _, .nil, q => q
  | _, _, _, _, .cons r t, q => .cons r (RpAll.append t q)
theorem RpAll.one {v : V} {d : PyData} (h : Rp K G v d) : RpAll K G [v] [d] := .cons h .nil
theorem RpAll.take : ∀ {vs : List V} {ds : List PyData} (n : Nat), RpAll K G vs ds → RpAll K G (vs.take n) (ds.take n)
  | _, _, 0, _ => .nil
  | _, _, _ + 1, .nil => .nil
  | _, _, n + 1, .cons r t => .cons r (RpAll.take n t)
theorem RpAll.drop : ∀ {vs : List V} {ds : List PyData} (n : Nat), RpAll K G vs ds → RpAll K G (vs.drop n) (ds.drop n)
  | _, _, 0, r => r
  | _, _, _ + 1, .nil => .nil
  | _, _, n + 1, .cons _ t => RpAll.drop n t
theorem RpAll.set {v : V} {d : PyData} (r : Rp K G v d) : ∀ {vs : List V} {ds : List PyData} (i : Nat), RpAll K G vs ds → RpAll K G (vs.set i v) (ds.set i d)
  | _, _, _, .nil => .nil
  | _, _, 0, .cons _ t => .cons r t
  | _, _, i + 1, .cons q t => .cons q (RpAll.set r i t)
theorem RpAll.erase : ∀ {vs : List V} {ds : List PyData} (i : Nat), RpAll K G vs ds → RpAll K G (vs.eraseIdx i) (ds.eraseIdx i)
  | _, _, _, .nil => .nil
  | _, _, 0, .cons _ t => t
  | _, _, i + 1, .cons q t => .cons q (RpAll.erase i t)
end
inductive Sl where
  | d (x : PyData)
  | own (xs : List PyData)
  | dct (ks : List (List Int))
  | dk (kvs : List (Int × PyData))
  | exn (a : Addr) (cls : Value) (dd : Option Addr) (e : Ex)
def Sl.Hold : Sl → Prop
  | .own _ => True
  | .dct _ => True
  | .dk _ => True
  | _ => False
abbrev Rho := List (Option Sl)
def ExR (K : PySem.W.Frag) (G H : Hp) (cls : Value) (d : Option Addr) (e : Ex) : Prop :=
  cls = .ref e.cls ∧ ((e.fs = [] ∧ d = none) ∨ ∃ dd fs, d = some dd ∧ H dd = some (.xd fs) ∧ fs.map (·.1) = e.fs.map (·.1) ∧ RpAll K G (fs.map (·.2)) (e.fs.map (·.2)))
theorem ExR.mv {K : PySem.W.Frag} {G G' H H' : Hp} {cls : Value} {d : Option Addr} {e : Ex} (s : Sub G G') (hx : ∀ dd fs, H dd = some (.xd fs) → H' dd = some (.xd fs)) (h : ExR K G H cls d e) : ExR K G' H' cls d e := by
  obtain ⟨h1, h2⟩ := h
  refine ⟨h1, ?_⟩
  rcases h2 with h2 | ⟨dd, fs, h3, h4, h5, h6⟩
  · exact .inl h2
  · exact .inr ⟨dd, fs, h3, hx _ _ h4, h5, h6.mono s⟩
def SlotR (K : PySem.W.Frag) (O0 O : List Addr) (H : Hp) (v : V) : Sl → Prop
  | .d x => Rp K (hide O H) v x
  | .own xs => ∃ p vs, v = .ref p ∧ p ∈ O ∧ p ∉ O0 ∧ H p = some (.lst vs) ∧ xs.length ≤ sizeLine ∧ RpAll K (hide O H) vs xs
  | .dct ks => ∃ p ep xs, v = .ref p ∧ p ∈ O ∧ p ∉ O0 ∧ H p = some (dctO p ep xs) ∧ xs.map (·.1) = ks ∧ ∀ x ∈ xs, SqT K (hide O H) x.2 (x.1.map V.int)
  | .dk ks => ∃ p kvs, v = .ref p ∧ p ∈ O ∧ p ∉ O0 ∧ H p = some (.dK kvs) ∧ kvs.map (·.1) = ks.map (fun x => Sum.inl x.1) ∧ RpAll K (hide O H) (kvs.map (·.2)) (ks.map (·.2))
  | .exn a cls dd e => v = .ref a ∧ ExR K (hide O H) H cls dd e
theorem SlotR.hold {K : PySem.W.Frag} {O0 O : List Addr} {H : Hp} {v : V} {s : Sl} (hs : s.Hold) (h : SlotR K O0 O H v s) : ∃ p, v = .ref p ∧ p ∈ O ∧ p ∉ O0 := by
  cases s with
  | d x => exact hs.elim
  | own xs => obtain ⟨p, vs, rfl, m, n, _⟩ := h; exact ⟨p, rfl, m, n⟩
  | dct ks => obtain ⟨p, _, vs, rfl, m, n, _⟩ := h; exact ⟨p, rfl, m, n⟩
  | dk ks => obtain ⟨p, vs, rfl, m, n, _⟩ := h; exact ⟨p, rfl, m, n⟩
  | exn a c dd e => exact hs.elim
theorem SlotR.mv {K : PySem.W.Frag} {O0 O O' : List Addr} {H H' : Hp} {v : V} {s : Sl} (sub : Sub (hide O H) (hide O' H')) (hm : s.Hold → ∀ p, v = .ref p → p ∈ O → p ∉ O0 → p ∈ O' ∧ ∀ o, H p = some o → (∀ ps, o ≠ .tbl ps) → H' p = some o)
    (hx : ∀ dd fs, H dd = some (.xd fs) → H' dd = some (.xd fs)) (h : SlotR K O0 O H v s) : SlotR K O0 O' H' v s := by
  cases s with
  | d x => exact Rp.mono sub h
  | own xs =>
    obtain ⟨p, vs, rfl, m, n, hp, z, r⟩ := h
    obtain ⟨m', k⟩ := hm trivial p rfl m n
    exact ⟨p, vs, rfl, m', n, k _ hp (fun _ q => by cases q), z, r.mono sub⟩
  | dct ks =>
    obtain ⟨p, ep, xs, rfl, m, n, hp, z, r⟩ := h
    obtain ⟨m', k⟩ := hm trivial p rfl m n
    exact ⟨p, ep, xs, rfl, m', n, k _ hp (fun _ q => by cases q), z, fun x hx => sub.sqT (r x hx)⟩
  | dk ks =>
    obtain ⟨p, kvs, rfl, m, n, hp, z, r⟩ := h
    obtain ⟨m', k⟩ := hm trivial p rfl m n
    exact ⟨p, kvs, rfl, m', n, k _ hp (fun _ q => by cases q), z, r.mono sub⟩
  | exn a c dd e => exact ⟨h.1, h.2.mv sub hx⟩
structure St0 (K : PySem.W.Frag) (Tb : List Addr) (H0 : Hp) (O0 O : List Addr) (H : Hp) (σ : L2.St) (ρ : Rho) : Prop where
  ext : Ext H0 H
  sub : ∀ b ∈ O0, b ∈ O
  new : ∀ b ∈ O, b ∉ O0 → H0 b = none
  al : ∀ b ∈ O, H b ≠ none
  tab : ∀ P ∈ Tb, TabC H P
  pln : ∀ b ∈ O, b ∉ O0 → ∃ o, H b = some o ∧ Plain o
  len : σ.length = ρ.length
  slot : ∀ (i : Nat) (s : Sl), ρ[i]? = some (some s) → ∃ v, σ[i]? = some (some v) ∧ SlotR K O0 O H v s
  inj : ∀ (i j : Nat) (p : Addr) (s t : Sl), s.Hold → t.Hold → ρ[i]? = some (some s) → ρ[j]? = some (some t) → σ[i]? = some (some (.ref p)) → σ[j]? = some (some (.ref p)) → i = j
section
variable {K : PySem.W.Frag} {Tb : List Addr} {H0 H H' : Hp} {O0 O : List Addr} {σ : L2.St} {ρ : Rho}
theorem St0.step (s : St0 K Tb H0 O0 O H σ ρ) (e : Ext H H') : St0 K Tb H0 O0 O H' σ ρ where
  ext := s.ext.trans e
  sub := s.sub
  new := s.new
  al := fun b m => e.al b (s.al b m)
  tab := fun P m => e.tab P (s.tab P m)
  pln := fun b m n => by
    obtain ⟨o, h, q⟩ := s.pln b m n
    exact ⟨o, e.keep b o h q.2, q⟩
  len := s.len
  slot := fun i x h => by
    obtain ⟨v, h1, h2⟩ := s.slot i x h
    exact ⟨v, h1, h2.mv (Sub.hide e.keep) (fun _ p _ m _ => ⟨m, fun o h n => e.keep p o h n⟩) fun dd fs h => e.keep dd _ h fun _ q => by cases q⟩
  inj := s.inj
theorem St0.hold (s : St0 K Tb H0 O0 O H σ ρ) {i : Nat} {x : Sl} {p : Addr} (hx : x.Hold) (h : ρ[i]? = some (some x)) (hp : σ[i]? = some (some (.ref p))) : p ∈ O ∧ p ∉ O0 := by
  obtain ⟨v, h1, h2⟩ := s.slot i x h
  obtain ⟨q, rfl, m, n⟩ := h2.hold hx
  rw [hp] at h1
  cases h1
  exact ⟨m, n⟩
/-- a new address is none of the hidden -/
theorem St0.fresh (s : St0 K Tb H0 O0 O H σ ρ) {p : Addr} (h : H p = none) : p ∉ O := fun m => s.al p m h
end
abbrev WX := L2.WX
def AftX (K : PySem.W.Frag) (O : List Addr) (H : Hp) (e : Ex) (W : Value → Option Addr → Hp → Prop) : Prop := ∀ cls d H', Ext H H' → ExR K (hide O H') H' cls d e → W cls d H'
/-- what is wanted of a result -/
def Post (K : PySem.W.Frag) (O : List Addr) {α β : Type} (Rl : Hp → β → α → Prop) (W : Value → Option Addr → Hp → Prop) (H : Hp) (x : R α) (Q : β → Hp → Prop) : Prop := match x with
  | .ok a => ∀ b H', Ext H H' → Rl H' b a → Q b H'
  | .exc e => AftX K O H e W
  | .bad => False
abbrev RlD (K : PySem.W.Frag) (O : List Addr) : Hp → V → PyData → Prop := fun H v d => Rp K (hide O H) v d
abbrev RlL (K : PySem.W.Frag) (O : List Addr) : Hp → List V → List PyData → Prop := fun H v d => RpAll K (hide O H) v d
abbrev RlB : Hp → Bool → Bool → Prop := fun _ b c => b = c
section
variable {K : PySem.W.Frag} {O : List Addr} {α α' β β' : Type} {Rl : Hp → β → α → Prop} {Rl' : Hp → β' → α' → Prop} {W : Value → Option Addr → Hp → Prop} {H H1 : Hp}
theorem Post.step {x : R α} {Q : β → Hp → Prop} (h : Post K O Rl W H x Q) (e : Ext H H1) : Post K O Rl W H1 x Q := by
  cases x with
  | ok a => exact fun b H' e' r => h b H' (e.trans e') r
  | exc x => exact fun c d H' e' r => h c d H' (e.trans e') r
  | bad => exact h
theorem Post.then {x : R α} {f : α → R α'} {Q : β → Hp → Prop} {Q' : β' → Hp → Prop} (h : Post K O Rl' W H (x >>= f) Q') (k : ∀ a b H1, Ext H H1 → Rl H1 b a → Post K O Rl' W H1 (f a) Q' → Q b H1) : Post K O Rl W H x Q := by
  cases x with
  | ok a => exact fun b H' e r => k a b H' e r (Post.step (show Post K O Rl' W H (f a) Q' from h) e)
  | exc x => exact h
  | bad => exact h
theorem Post.mono {x : R α} {Q Q' : β → Hp → Prop} (h : Post K O Rl W H x Q) (k : ∀ b H1, Q b H1 → Q' b H1) : Post K O Rl W H x Q' := by
  cases x with
  | ok a => exact fun b H' e r => k _ _ (h b H' e r)
  | exc x => exact h
  | bad => exact h
end
section
variable (K : PySem.W.Frag) (Tb : List Addr) (W : WX)
def tD (f : Rho → R PyData) : TE := fun σ H Q => ∃ H0 O0 O ρ, St0 K Tb H0 O0 O H σ ρ ∧ Post K O (RlD K O) (fun c d H => W c d σ H) H (f ρ) Q
def tDs (f : Rho → R (List PyData)) : TA := fun σ H Q => ∃ H0 O0 O ρ, St0 K Tb H0 O0 O H σ ρ ∧ Post K O (RlL K O) (fun c d H => W c d σ H) H (f ρ) Q
def tDT (f : Rho → R Bool) : TT := fun σ H Q => ∃ H0 O0 O ρ, St0 K Tb H0 O0 O H σ ρ ∧ Post K O RlB (fun c d H => W c d σ H) H (f ρ) Q
end
theorem _root_.L2.PE.by {X : Cx} {e : Expr} {t t' : TE} (h : PE X e t) (i : ∀ σ H Q, t' σ H Q → t σ H Q) : PE X e t' := ⟨fun pins s σ H Q I q => h.run pins s σ H Q I (i σ H Q q)⟩
theorem _root_.L2.PT.by {X : Cx} {e : Expr} {t t' : TT} (h : PT X e t) (i : ∀ σ H Q, t' σ H Q → t σ H Q) : PT X e t' := ⟨fun pins s σ H Q I q => h.run pins s σ H Q I (i σ H Q q)⟩
theorem _root_.L2.PW.by {X : Cx} {e : Expr} {t t' : TT} (h : PW X e t) (i : ∀ σ H Q, t' σ H Q → t σ H Q) : PW X e t' := ⟨fun wh pins s σ H Q I q => h.run wh pins s σ H Q I (i σ H Q q)⟩
theorem _root_.L2.PA.by {X : Cx} {e : List Expr} {t t' : TA} (h : PA X e t) (i : ∀ σ H Q, t' σ H Q → t σ H Q) : PA X e t' := ⟨fun pos pins s σ H Q I q => h.run pos pins s σ H Q I (i σ H Q q)⟩
theorem _root_.L2.PS.by {X : Cx} {e : Stmt} {t t' : TS} (h : PS X e t) (i : ∀ D σ H, t' D σ H → t D σ H) : PS X e t' := ⟨fun pins s σ H D I q => h.run pins s σ H D I (i D σ H q)⟩
theorem _root_.L2.PSs.by {X : Cx} {e : List Stmt} {t t' : TS} (h : PSs X e t) (i : ∀ D σ H, t' D σ H → t D σ H) : PSs X e t' := ⟨fun pins s σ H D I q => h.run pins s σ H D I (i D σ H q)⟩
end PD
set_option Elab.async false
set_option linter.all false
set_option maxRecDepth 100000
set_option maxHeartbeats 1000000
namespace PD
open PySem PySem.Spec PyProof.Rows L2
def oAdd : PyData → PyData → R PyData
  | .int i, .int j => .ok (.int (i + j))
  | .tuple xs, .tuple ys => if xs.length + ys.length ≤ sizeLine then .ok (.tuple (xs ++ ys)) else .bad
  | .list xs, .list ys => if xs.length + ys.length ≤ sizeLine then .ok (.list (xs ++ ys)) else .bad
  | _, _ => .bad
def oSub : PyData → PyData → R PyData
  | .int i, .int j => .ok (.int (i - j))
  | _, _ => .bad
instance (i j : Int) : Decidable (CMul i j) := by unfold CMul; infer_instance
instance (i j : Int) : Decidable (CPow i j) := by unfold CPow; infer_instance
instance (i j : Int) : Decidable (CDivN i j) := by unfold CDivN; infer_instance
def oMul : PyData → PyData → R PyData
  | .int i, .int j => if CMul i j then .ok (.int (i * j)) else .bad
  | _, _ => .bad
def oDiv : PyData → PyData → R PyData
  | .int i, .int j => if CDivN i j then .ok (.int (i.fdiv j)) else .bad
  | _, _ => .bad
def oMod : PyData → PyData → R PyData
  | .int i, .int j => if j ≠ 0 then .ok (.int (i.fmod j)) else .bad
  | _, _ => .bad
def oPow : PyData → PyData → R PyData
  | .int i, .int j => if CPow i j then .ok (.int (i ^ j.toNat)) else .bad
  | _, _ => .bad
def oNeg : PyData → R PyData
  | .int i => .ok (.int (-i))
  | _ => .bad
def shp (d : PyData) : Bool := SeqAt.shaped d
def oEq (d e : PyData) : R PyData := if shp d = true ∧ shp e = true then .ok (.bool (PyData.eqv d e)) else .bad
def oNe (d e : PyData) : R PyData := if shp d = true ∧ shp e = true then .ok (.bool (!PyData.eqv d e)) else .bad
def oLt : PyData → PyData → R PyData
  | .int i, .int j => .ok (.bool (decide (i < j)))
  | _, _ => .bad
def oLe : PyData → PyData → R PyData
  | .int i, .int j => .ok (.bool (decide (i ≤ j)))
  | _, _ => .bad
def oGt : PyData → PyData → R PyData
  | .int i, .int j => .ok (.bool (decide (j < i)))
  | _, _ => .bad
def oGe : PyData → PyData → R PyData
  | .int i, .int j => .ok (.bool (decide (j ≤ i)))
  | _, _ => .bad
def items : PyData → R (List PyData)
  | .list xs => .ok xs
  | .tuple xs => .ok xs
  | _ => .bad
def inD (d : PyData) (xs : List PyData) : Bool := xs.any fun z => PyData.eqv z d
def oIn (d e : PyData) : R PyData := if shp d = true ∧ shp e = true then (do let xs ← items e; .ok (.bool (inD d xs))) else .bad
def oNotIn (d e : PyData) : R PyData := if shp d = true ∧ shp e = true then (do let xs ← items e; .ok (.bool (!inD d xs))) else .bad
def oIx : PyData → PyData → R PyData
  | .list xs, .int i => match atI xs i with | some d => .ok d | none => .bad
  | .tuple xs, .int i => match atI xs i with | some d => .ok d | none => .bad
  | _, _ => .bad
def cutD (xs : List PyData) (lo hi : Option Int) : List PyData := (xs.drop (HT.sIx xs.length 0 lo)).take (HT.sIx xs.length xs.length hi - HT.sIx xs.length 0 lo)
def oCut (d : PyData) (lo hi : Option Int) : R PyData := match d with
  | .list xs => .ok (.list (cutD xs lo hi))
  | .tuple xs => .ok (.tuple (cutD xs lo hi))
  | _ => .bad
abbrev Dn := Rho → R PyData
abbrev DnL := Rho → R (List PyData)
abbrev DnB := Rho → R Bool
def dVar (i : Nat) : Dn := fun ρ => match ρ[i]? with
  | some (some (.d x)) => .ok x
  | _ => .bad
def dC (x : PyData) : Dn := fun _ => .ok x
def dOne (u : PyData → R PyData) (f : Dn) : Dn := fun ρ => f ρ >>= u
def dTwo (u : PyData → PyData → R PyData) (f g : Dn) : Dn := fun ρ => f ρ >>= fun a => g ρ >>= fun b => u a b
def dNil : DnL := fun _ => .ok []
def dCons (f : Dn) (g : DnL) : DnL := fun ρ => f ρ >>= fun a => g ρ >>= fun b => .ok (a :: b)
def dTup (g : DnL) : Dn := fun ρ => g ρ >>= fun xs => if xs.length ≤ sizeLine then .ok (.tuple xs) else .bad
def dLst (g : DnL) : Dn := fun ρ => g ρ >>= fun xs => if xs.length ≤ sizeLine then .ok (.list xs) else .bad
def dArg (m : List PyData → R PyData) (g : DnL) : Dn := fun ρ => g ρ >>= m
def asB : PyData → R Bool
  | .bool b => .ok b
  | _ => .bad
def dAsB (f : Dn) : DnB := fun ρ => f ρ >>= asB
def dAnd (f g : DnB) : DnB := fun ρ => f ρ >>= fun b => if b = true then g ρ else .ok false
def dOr (f g : DnB) : DnB := fun ρ => f ρ >>= fun b => if b = true then .ok true else g ρ
def dNot (f : DnB) : DnB := fun ρ => f ρ >>= fun b => .ok (!b)
def dAndV (f g : Dn) : Dn := fun ρ => f ρ >>= fun a => asB a >>= fun b => if b = true then g ρ else .ok (.bool false)
def dOrV (f g : Dn) : Dn := fun ρ => f ρ >>= fun a => asB a >>= fun b => if b = true then .ok (.bool true) else g ρ
def dNotV (f : Dn) : Dn := fun ρ => f ρ >>= fun a => asB a >>= fun b => .ok (.bool (!b))
def dIf (c : DnB) (f g : Dn) : Dn := fun ρ => c ρ >>= fun b => if b = true then f ρ else g ρ
def asI : PyData → R Int
  | .int i => .ok i
  | _ => .bad
abbrev DnO := Rho → R (Option Int)
def dNoP : DnO := fun _ => .ok none
def dPart (f : Dn) : DnO := fun ρ => f ρ >>= fun a => asI a >>= fun i => .ok (some i)
def dCut (f : Dn) (lo hi : DnO) : Dn := fun ρ => f ρ >>= fun a => lo ρ >>= fun l => hi ρ >>= fun h => oCut a l h
section
variable {X : Cx} {Tb : List Addr} {W : WX} {K : PySem.W.Frag} {O : List Addr} {H : Hp} {σ : L2.St} {Wx : Value → Option Addr → Hp → Prop}
def Al (O : List Addr) (H : Hp) : Prop := ∀ b ∈ O, H b ≠ none
/-- a new tuple, a new list -/
theorem Post.newTup {xs : List V} {ds : List PyData} {Q : VK} (al : Al O H) (h : Post K O (RlD K O) Wx H (.ok (.tuple ds)) Q) (z : ds.length ≤ sizeLine) (r : RpAll K (hide O H) xs ds) : ∀ p, H p = none → Q (.ref p) (upd H p (.tup xs)) := fun p hp => by
  have n : p ∉ O := fun m => al p m hp
  refine h _ _ (Ext.new hp) (.tup (.of (by rw [hide_out n, upd_same])) z (r.mono (Sub.hide (Ext.new hp).keep)))
theorem Post.newLst {xs : List V} {ds : List PyData} {Q : VK} (al : Al O H) (h : Post K O (RlD K O) Wx H (.ok (.list ds)) Q) (z : ds.length ≤ sizeLine) (r : RpAll K (hide O H) xs ds) : ∀ p, H p = none → Q (.ref p) (upd H p (.lst xs)) := fun p hp => by
  have n : p ∉ O := fun m => al p m hp
  refine h _ _ (Ext.new hp) (.lst (.of (by rw [hide_out n, upd_same])) z (r.mono (Sub.hide (Ext.new hp).keep)))
theorem Post.here {d : PyData} {v : V} {Q : VK} (h : Post K O (RlD K O) Wx H (.ok d) Q) (r : Rp K (hide O H) v d) : Q v H := h v H (Ext.refl H) r
/-- an operator by values -/
def Ok1 (K : PySem.W.Frag) (r : V → Hp → VK → Prop) (u : PyData → R PyData) : Prop := ∀ (O : List Addr) (H : Hp) (Wx : Value → Option Addr → Hp → Prop) (v : V) (d : PyData) (Q : VK), Al O H → Rp K (hide O H) v d → Post K O (RlD K O) Wx H (u d) Q → r v H Q
def Ok2 (K : PySem.W.Frag) (r : R2) (u : PyData → PyData → R PyData) : Prop := ∀ (O : List Addr) (H : Hp) (Wx : Value → Option Addr → Hp → Prop) (x y : V) (d e : PyData) (Q : VK), Al O H → Rp K (hide O H) x d → Rp K (hide O H) y e → Post K O (RlD K O) Wx H (u d e) Q → r x y H Q
def OkL (K : PySem.W.Frag) (r : List V → Hp → VK → Prop) (u : List PyData → R PyData) : Prop := ∀ (O : List Addr) (H : Hp) (Wx : Value → Option Addr → Hp → Prop) (vs : List V) (ds : List PyData) (Q : VK), Al O H → RpAll K (hide O H) vs ds → Post K O (RlD K O) Wx H (u ds) Q → r vs H Q
theorem tD_one {r : V → Hp → VK → Prop} {u : PyData → R PyData} {f : Dn} {Q : VK} (hr : Ok1 K r u) (h : tD K Tb W (dOne u f) σ H Q) : tUn r (tD K Tb W f) σ H Q := by
  obtain ⟨H0, O0, O, ρ, st, h⟩ := h
  exact ⟨H0, O0, O, ρ, st, Post.then h fun d v H1 e r1 k => hr O H1 _ v d Q (st.step e).al r1 k⟩
theorem tD_two {r : R2} {u : PyData → PyData → R PyData} {f g : Dn} {Q : VK} (hr : Ok2 K r u) (h : tD K Tb W (dTwo u f g) σ H Q) : tOp r (tD K Tb W f) (tD K Tb W g) σ H Q := by
  obtain ⟨H0, O0, O, ρ, st, h⟩ := h
  refine ⟨H0, O0, O, ρ, st, Post.then h fun d v H1 e r1 k => ?_⟩
  refine ⟨H0, O0, O, ρ, st.step e, Post.then k fun d2 v2 H2 e2 r2 k2 => ?_⟩
  exact hr O H2 _ v v2 d d2 Q ((st.step e).step e2).al (r1.mono (Sub.hide e2.keep)) r2 k2
theorem tD_arg {r : List V → Hp → VK → Prop} {u : List PyData → R PyData} {g : DnL} {Q : VK} (hr : OkL K r u) (h : tD K Tb W (dArg u g) σ H Q) : tCB r (tDs K Tb W g) σ H Q := by
  obtain ⟨H0, O0, O, ρ, st, h⟩ := h
  exact ⟨H0, O0, O, ρ, st, Post.then h fun d v H1 e r1 k => hr O H1 _ v d Q (st.step e).al r1 k⟩
theorem fd_var (i : Nat) {x : Str} {pos : Pos} (hN : X.N[i]? = some x := by rfl) (hv : Vis X.env.scope x := by first | exact Or.inl rfl | exact Or.inr (Or.inl rfl) | exact Or.inr (Or.inr rfl)) (hd : (x == ("__debug__" : Str)) = false := by decide)
    (hcd : (x == ("__classdict__" : Str)) = false := by decide) : PE X (.Name x pos) (tD X.K Tb W (dVar i)) := (pv i hN hv hd hcd).by fun σ H Q h => by
  obtain ⟨H0, O0, O, ρ, st, h⟩ := h
  unfold dVar at h
  split at h
  · rename_i x e
    obtain ⟨v, h1, h2⟩ := st.slot i _ e
    exact ⟨v, h1, Post.here h h2⟩
  · exact h.elim
theorem fd_int {i : Int} {j pos} : PE X (.Constant (.int i) j pos) (tD X.K Tb W (dC (.int i))) := pe_int.by fun σ H Q ⟨_, _, _, _, _, h⟩ => Post.here h (.int i)
theorem fd_bl {b : Bool} {j pos} : PE X (.Constant (.bool b) j pos) (tD X.K Tb W (dC (.bool b))) := pe_bl.by fun σ H Q ⟨_, _, _, _, _, h⟩ => Post.here h (.bl b)
theorem fa_nil : PA X [] (tDs X.K Tb W dNil) := pa_nil.by fun σ H Q ⟨_, _, _, _, _, h⟩ => h [] H (Ext.refl H) .nil
theorem fa_cons {e : Expr} {es : List Expr} {f : Dn} {g : DnL} (ha : PE X e (tD X.K Tb W f)) (hr : PA X es (tDs X.K Tb W g)) (hs : starEach (e :: es) X.env = (false, eval e X.env) :: starEach es X.env := by rfl) : PA X (e :: es) (tDs X.K Tb W (dCons f g)) :=
  (pa_cons ha hr hs).by fun σ H Q h => by
    obtain ⟨H0, O0, O, ρ, st, h⟩ := h
    refine ⟨H0, O0, O, ρ, st, Post.then h fun d v H1 e r1 k => ?_⟩
    refine ⟨H0, O0, O, ρ, st.step e, Post.then k fun d2 v2 H2 e2 r2 k2 => ?_⟩
    exact k2 _ H2 (Ext.refl _) (.cons (r1.mono (Sub.hide e2.keep)) r2)
theorem fd_tup {es : List Expr} {g : DnL} {x1} {pos : Pos} (h : PA X es (tDs X.K Tb W g)) : PE X (.Tuple es x1 pos) (tD X.K Tb W (dTup g)) := (pe_tup h).by fun σ H Q h => by
  obtain ⟨H0, O0, O, ρ, st, h⟩ := h
  refine ⟨H0, O0, O, ρ, st, Post.then h fun d v H1 e r1 k => ?_⟩
  split at k
  · rename_i z
    exact ⟨by rw [r1.length]; exact z, Post.newTup (st.step e).al k z r1⟩
  · exact k.elim
theorem fd_lst {es : List Expr} {g : DnL} {pos : Pos} (h : PA X es (tDs X.K Tb W g)) : PE X (.List es pos) (tD X.K Tb W (dLst g)) := (pe_lst h).by fun σ H Q h => by
  obtain ⟨H0, O0, O, ρ, st, h⟩ := h
  refine ⟨H0, O0, O, ρ, st, Post.then h fun d v H1 e r1 k => ?_⟩
  split at k
  · rename_i z
    exact ⟨by rw [r1.length]; exact z, Post.newLst (st.step e).al k z r1⟩
  · exact k.elim
def rCatS (K : PySem.W.Frag) : R2 := fun x y H Q => ∃ l b xs zs, x = .ref l ∧ y = .ref b ∧ SqL K H l xs ∧ SqL K H b zs ∧ xs.length + zs.length ≤ sizeLine ∧ ∀ p, H p = none → Q (.ref p) (upd H p (.lst (xs ++ zs)))
theorem op_catS : OpR X (binaryOp .Add) (rCatS X.K) := by
  intro pins s σ H x y v u Q I rx ry h
  obtain ⟨l, b, xs, zs, rfl, rfl, hH, hB, hz, q⟩ := h
  cases rx
  cases ry
  obtain ⟨its, r, ⟨⟨cls, dd, data, sl⟩, n, ho, hc, hdd, hd⟩, _⟩ := I.list hH
  obtain ⟨its2, r2, ⟨⟨cls2, dd2, data2, sl2⟩, n2, ho2, hc2, hdd2, hd2⟩, _⟩ := I.list hB
  simp only at hc hdd hd hc2 hdd2 hd2
  subst hc hdd hd hc2 hdd2 hd2
  have l1 := r.length
  have l2 := r2.length
  have e : its.toArray ++ its2.toArray = (its ++ its2).toArray := by simp
  refine concat_meets ⟨_, ho, rfl⟩ ⟨_, ho2, rfl⟩ noFill_list_add seq_list_add PySem.F.slot_list_add PySem.F.entry_list_add (PySem.F.args_list_add_2 _ _) (list_addW l b its.toArray its2.toArray n n2 none none sl sl2 (by rw [List.size_toArray, List.size_toArray]; omega)) ⟨ho, ho2, ?_⟩
  rw [e]
  exact ⟨.ref _, _, I.lnew (t' := s.toks) (r.append r2) (by rw [List.length_append]; omega), rfl, q _ I.fresh⟩
theorem opR_or {f : Value → Value → Sem Value} {r r' : R2} (h : OpR X f r) (h' : OpR X f r') : OpR X f (fun x y H Q => r x y H Q ∨ r' x y H Q) := by
  intro pins s σ H x y v u Q I rx ry q
  rcases q with q | q
  · exact h pins s σ H x y v u Q I rx ry q
  · exact h' pins s σ H x y v u Q I rx ry q
theorem ok_add : Ok2 K (fun x y H Q => rI0 (fun i j => .int (i + j)) x y H Q ∨ (rCatA K x y H Q ∨ rCatS K x y H Q)) oAdd := by
  intro O H Wx x y d e Q al hx hy h
  unfold oAdd at h
  split at h
  · cases hx; cases hy
    exact .inl ⟨_, _, rfl, rfl, Post.here h (.int _)⟩
  · split at h
    · rename_i z
      cases hx with
      | tup h1 z1 a1 =>
        cases hy with
        | tup h2 z2 a2 =>
          refine .inr (.inl ⟨_, _, _, _, rfl, rfl, Sub.unhide.sqT h1, Sub.unhide.sqT h2, by rw [a1.length, a2.length]; exact z, fun e0 => ?_, fun _ e0 => ?_, fun _ _ => ?_⟩)
          · subst e0
            cases a1
            exact Post.here h (.tup h2 z2 a2)
          · subst e0
            cases a2
            rw [List.append_nil] at h
            exact Post.here h (.tup h1 z1 a1)
          · exact Post.newTup al h (by rw [List.length_append]; exact z) (a1.append a2)
    · exact h.elim
  · split at h
    · rename_i z
      cases hx with
      | lst h1 z1 a1 =>
        cases hy with
        | lst h2 z2 a2 =>
          exact .inr (.inr ⟨_, _, _, _, rfl, rfl, Sub.unhide.sqL h1, Sub.unhide.sqL h2, by rw [a1.length, a2.length]; exact z, Post.newLst al h (by rw [List.length_append]; exact z) (a1.append a2)⟩)
    · exact h.elim
  · exact h.elim
theorem ok_sub : Ok2 K (rI0 fun i j => .int (i - j)) oSub := by
  intro O H Wx x y d e Q al hx hy h
  unfold oSub at h
  split at h
  · cases hx; cases hy
    exact ⟨_, _, rfl, rfl, Post.here h (.int _)⟩
  · exact h.elim
theorem ok_mul : Ok2 K (rI CMul fun i j => .int (i * j)) oMul := by
  intro O H Wx x y d e Q al hx hy h
  unfold oMul at h
  split at h
  · cases hx; cases hy
    split at h
    · exact ⟨_, _, rfl, rfl, by assumption, Post.here h (.int _)⟩
    · exact h.elim
  · exact h.elim
theorem ok_div : Ok2 K (rI CDivN fun i j => .int (i.fdiv j)) oDiv := by
  intro O H Wx x y d e Q al hx hy h
  unfold oDiv at h
  split at h
  · cases hx; cases hy
    split at h
    · exact ⟨_, _, rfl, rfl, by assumption, Post.here h (.int _)⟩
    · exact h.elim
  · exact h.elim
theorem ok_mod : Ok2 K (rI (fun _ j => j ≠ 0) fun i j => .int (i.fmod j)) oMod := by
  intro O H Wx x y d e Q al hx hy h
  unfold oMod at h
  split at h
  · cases hx; cases hy
    split at h
    · exact ⟨_, _, rfl, rfl, by assumption, Post.here h (.int _)⟩
    · exact h.elim
  · exact h.elim
theorem ok_pow : Ok2 K (rI CPow fun i j => .int (i ^ j.toNat)) oPow := by
  intro O H Wx x y d e Q al hx hy h
  unfold oPow at h
  split at h
  · cases hx; cases hy
    split at h
    · exact ⟨_, _, rfl, rfl, by assumption, Post.here h (.int _)⟩
    · exact h.elim
  · exact h.elim
variable {a b c : Expr} {f g : Dn} {pos : Pos}
theorem fd_add (ha : PE X a (tD X.K Tb W f)) (hb : PE X b (tD X.K Tb W g)) : PE X (.BinOp a .Add b pos) (tD X.K Tb W (dTwo oAdd f g)) := (pe_op (opR_or op_add (opR_or op_catA op_catS)) ha hb).by fun σ H Q h => tD_two ok_add h
theorem fd_sub (ha : PE X a (tD X.K Tb W f)) (hb : PE X b (tD X.K Tb W g)) : PE X (.BinOp a .Sub b pos) (tD X.K Tb W (dTwo oSub f g)) := (pe_op op_sub ha hb).by fun σ H Q h => tD_two ok_sub h
theorem fd_mul (ha : PE X a (tD X.K Tb W f)) (hb : PE X b (tD X.K Tb W g)) : PE X (.BinOp a .Mult b pos) (tD X.K Tb W (dTwo oMul f g)) := (pe_op op_mul ha hb).by fun σ H Q h => tD_two ok_mul h
theorem fd_div (ha : PE X a (tD X.K Tb W f)) (hb : PE X b (tD X.K Tb W g)) : PE X (.BinOp a .FloorDiv b pos) (tD X.K Tb W (dTwo oDiv f g)) := (pe_op op_fdivN ha hb).by fun σ H Q h => tD_two ok_div h
theorem fd_mod (ha : PE X a (tD X.K Tb W f)) (hb : PE X b (tD X.K Tb W g)) : PE X (.BinOp a .Mod b pos) (tD X.K Tb W (dTwo oMod f g)) := (pe_op op_modN ha hb).by fun σ H Q h => tD_two ok_mod h
theorem fd_pow (ha : PE X a (tD X.K Tb W f)) (hb : PE X b (tD X.K Tb W g)) : PE X (.BinOp a .Pow b pos) (tD X.K Tb W (dTwo oPow f g)) := (pe_op op_pow ha hb).by fun σ H Q h => tD_two ok_pow h
theorem fd_neg (ha : PE X a (tD X.K Tb W f)) : PE X (.UnaryOp .USub a pos) (tD X.K Tb W (dOne oNeg f)) := (pe_un un_neg ha).by fun σ H Q h => tD_one (K := X.K) (u := oNeg) (by
  intro O H Wx v d Q al hv h
  unfold oNeg at h
  split at h
  · cases hv
    exact ⟨_, rfl, Post.here h (.int _)⟩
  · exact h.elim) h
theorem ok_eq : Ok2 K (rEqD K) oEq := by
  intro O H Wx x y d e Q al hx hy h
  unfold oEq at h
  split at h
  · rename_i z
    exact ⟨d, e, (hx.mono Sub.unhide).dp (nod_of_lay (SeqAt.canLay_of_shaped z.1)), (hy.mono Sub.unhide).dp (nod_of_lay (SeqAt.canLay_of_shaped z.2)), z.1, z.2, Post.here h (.bl _)⟩
  · exact h.elim
theorem ok_ne : Ok2 K (rNeD K) oNe := by
  intro O H Wx x y d e Q al hx hy h
  unfold oNe at h
  split at h
  · rename_i z
    exact ⟨d, e, (hx.mono Sub.unhide).dp (nod_of_lay (SeqAt.canLay_of_shaped z.1)), (hy.mono Sub.unhide).dp (nod_of_lay (SeqAt.canLay_of_shaped z.2)), z.1, z.2, Post.here h (.bl _)⟩
  · exact h.elim
def rInS (K : PySem.W.Frag) (neg : Bool) : R2 := fun x y H Q => ∃ d e ds, Dp K H x d ∧ Dp K H y e ∧ items e = .ok ds ∧ SeqAt.shaped d = true ∧ SeqAt.shaped e = true ∧ Q (.bl (if neg then !inD d ds else inD d ds)) H
theorem op_inS (hu : X.A.units + 65 < cLine) : OpR X (compareOp .In) (rInS X.K false) := by
  intro pins s σ H x y v u Q I rx ry h
  obtain ⟨d, e, ds, hd, he, hi, sd, se, q⟩ := h
  obtain ⟨as, r1⟩ := Dp.reads I d x v hd rx
  obtain ⟨bs, r2⟩ := Dp.reads I e y u he ry
  unfold items at hi
  split at hi
  · cases hi
    exact SeqAt.in_list_reads r2 r1 (SeqAt.canLay_of_shaped se) (SeqAt.canLay_of_shaped sd) (room_in_shaped sd hu) ⟨.bl _, H, I, rfl, q⟩
  · cases hi
    exact SeqAt.in_tuple_reads r2 r1 (SeqAt.canLay_of_shaped se) (SeqAt.canLay_of_shaped sd) (room_in_shaped sd hu) ⟨.bl _, H, I, rfl, q⟩
  · cases hi
theorem op_notInS (hu : X.A.units + 65 < cLine) : OpR X (compareOp .NotIn) (rInS X.K true) := by
  intro pins s σ H x y v u Q I rx ry h
  obtain ⟨d, e, ds, hd, he, hi, sd, se, q⟩ := h
  obtain ⟨as, r1⟩ := Dp.reads I d x v hd rx
  obtain ⟨bs, r2⟩ := Dp.reads I e y u he ry
  unfold items at hi
  split at hi
  · cases hi
    exact SeqAt.notIn_list_reads r2 r1 (SeqAt.canLay_of_shaped se) (SeqAt.canLay_of_shaped sd) (room_in_shaped sd hu) ⟨.bl _, H, I, rfl, q⟩
  · cases hi
    exact SeqAt.notIn_tuple_reads r2 r1 (SeqAt.canLay_of_shaped se) (SeqAt.canLay_of_shaped sd) (room_in_shaped sd hu) ⟨.bl _, H, I, rfl, q⟩
  · cases hi
theorem ok_in : Ok2 K (rInS K false) oIn := by
  intro O H Wx x y d e Q al hx hy h
  unfold oIn at h
  split at h
  · rename_i z
    cases hi : items e with
    | ok ds =>
      rw [hi] at h
      exact ⟨d, e, ds, (hx.mono Sub.unhide).dp (nod_of_lay (SeqAt.canLay_of_shaped z.1)), (hy.mono Sub.unhide).dp (nod_of_lay (SeqAt.canLay_of_shaped z.2)), hi, z.1, z.2, Post.here h (.bl _)⟩
    | exc x => cases e <;> cases hi
    | bad => rw [hi] at h; exact h.elim
  · exact h.elim
theorem ok_notIn : Ok2 K (rInS K true) oNotIn := by
  intro O H Wx x y d e Q al hx hy h
  unfold oNotIn at h
  split at h
  · rename_i z
    cases hi : items e with
    | ok ds =>
      rw [hi] at h
      exact ⟨d, e, ds, (hx.mono Sub.unhide).dp (nod_of_lay (SeqAt.canLay_of_shaped z.1)), (hy.mono Sub.unhide).dp (nod_of_lay (SeqAt.canLay_of_shaped z.2)), hi, z.1, z.2, Post.here h (.bl _)⟩
    | exc x => cases e <;> cases hi
    | bad => rw [hi] at h; exact h.elim
  · exact h.elim
theorem ok_cmp {p : Int → Int → Bool} {u : PyData → PyData → R PyData} (hu : ∀ d e, (∃ i j, d = .int i ∧ e = .int j ∧ u d e = .ok (.bool (p i j))) ∨ u d e = .bad) : Ok2 K (rI0 fun i j => .bl (p i j)) u := by
  intro O H Wx x y d e Q al hx hy h
  rcases hu d e with ⟨i, j, rfl, rfl, q⟩ | q
  · rw [q] at h
    cases hx; cases hy
    exact ⟨_, _, rfl, rfl, Post.here h (.bl _)⟩
  · rw [q] at h
    exact h.elim
theorem ok_lt : Ok2 K (rI0 fun i j => .bl (decide (i < j))) oLt := ok_cmp fun d e => by unfold oLt; split; exact .inl ⟨_, _, rfl, rfl, rfl⟩; exact .inr rfl
theorem ok_le : Ok2 K (rI0 fun i j => .bl (decide (i ≤ j))) oLe := ok_cmp fun d e => by unfold oLe; split; exact .inl ⟨_, _, rfl, rfl, rfl⟩; exact .inr rfl
theorem ok_gt : Ok2 K (rI0 fun i j => .bl (decide (j < i))) oGt := ok_cmp (p := fun i j => decide (j < i)) fun d e => by unfold oGt; split; exact .inl ⟨_, _, rfl, rfl, rfl⟩; exact .inr rfl
theorem ok_ge : Ok2 K (rI0 fun i j => .bl (decide (j ≤ i))) oGe := ok_cmp (p := fun i j => decide (j ≤ i)) fun d e => by unfold oGe; split; exact .inl ⟨_, _, rfl, rfl, rfl⟩; exact .inr rfl
/-- a comparison, by its rule -/
theorem fd_cmp {op : CmpOp} {r : R2} {u : PyData → PyData → R PyData} (ho : OpR X (compareOp op) r) (hk : Ok2 X.K r u) (ha : PE X a (tD X.K Tb W f)) (hb : PE X b (tD X.K Tb W g)) (hm : behindInMarks op b = false) : PE X (.Compare a [op] [b] pos) (tD X.K Tb W (dTwo u f g)) :=
  (pe_cmpR ho ha hb hm).by fun σ H Q h => tD_two hk h
theorem Post.asB {x : R PyData} {Q : Bool → Hp → Prop} (h : Post K O RlB Wx H (x >>= asB) Q) : Post K O (RlD K O) Wx H x (fun v H1 => ∃ k, v = .bl k ∧ Q k H1) := by
  refine Post.then h fun d v H1 e r k => ?_
  unfold PD.asB at k
  split at k
  · cases r
    exact ⟨_, rfl, k _ H1 (Ext.refl _) rfl⟩
  · exact k.elim
theorem ft_cmp {op : CmpOp} {r : R2} {u : PyData → PyData → R PyData} (ho : OpR X (compareOp op) r) (hk : Ok2 X.K r u) (ha : PE X a (tD X.K Tb W f)) (hb : PE X b (tD X.K Tb W g)) (hm : behindInMarks op b = false) : PT X (.Compare a [op] [b] pos) (tDT X.K Tb W (dAsB (dTwo u f g))) :=
  (pt_cmpR ho ha hb hm).by fun σ H Q ⟨H0, O0, O, ρ, st, h⟩ => tD_two (Tb := Tb) (W := W) hk ⟨H0, O0, O, ρ, st, Post.asB h⟩
/-- a test by an expression whose value is a bool -/
theorem ft_val (ha : PE X a (tD X.K Tb W f)) (he : ∀ whole, isTrue a X.env whole = (do let v ← whole; standAt a.pos; holding [v] (truthy v)) := by intro _; rfl) : PT X a (tDT X.K Tb W (dAsB f)) :=
  (pt_val ha he).by fun σ H Q ⟨H0, O0, O, ρ, st, h⟩ => ⟨H0, O0, O, ρ, st, (Post.asB h).mono fun b H1 q => q⟩
variable {fb gb : DnB} {rest : List Expr}
theorem fw_and1 (ha : PT X a (tDT X.K Tb W fb)) : PW X (.BoolOp .And [a] pos) (tDT X.K Tb W fb) := pw_and1 ha
theorem fw_or1 (ha : PT X a (tDT X.K Tb W fb)) : PW X (.BoolOp .Or [a] pos) (tDT X.K Tb W fb) := pw_or1 ha
theorem fw_and (ha : PT X a (tDT X.K Tb W fb)) (hb : PW X (.BoolOp .And (b :: rest) pos) (tDT X.K Tb W gb)) : PW X (.BoolOp .And (a :: b :: rest) pos) (tDT X.K Tb W (dAnd fb gb)) :=
  (pw_and ha hb).by fun σ H Q ⟨H0, O0, O, ρ, st, h⟩ => ⟨H0, O0, O, ρ, st, by
    refine Post.then h fun d v H1 e r k => ?_
    cases (show v = d from r)
    cases d with
    | true => exact ⟨H0, O0, O, ρ, st.step e, k⟩
    | false => exact k _ H1 (Ext.refl _) rfl⟩
theorem fw_or (ha : PT X a (tDT X.K Tb W fb)) (hb : PW X (.BoolOp .Or (b :: rest) pos) (tDT X.K Tb W gb)) : PW X (.BoolOp .Or (a :: b :: rest) pos) (tDT X.K Tb W (dOr fb gb)) :=
  (pw_or ha hb).by fun σ H Q ⟨H0, O0, O, ρ, st, h⟩ => ⟨H0, O0, O, ρ, st, by
    refine Post.then h fun d v H1 e r k => ?_
    cases (show v = d from r)
    cases d with
    | false => exact ⟨H0, O0, O, ρ, st.step e, k⟩
    | true => exact k _ H1 (Ext.refl _) rfl⟩
theorem ft_not (ha : PT X a (tDT X.K Tb W fb)) : PT X (.UnaryOp .Not a pos) (tDT X.K Tb W (dNot fb)) := (pt_not ha).by fun σ H Q ⟨H0, O0, O, ρ, st, h⟩ => ⟨H0, O0, O, ρ, st, by
    refine Post.then h fun d v H1 e r k => ?_
    cases (show v = d from r)
    exact k _ H1 (Ext.refl _) rfl⟩
theorem fd_one {op} (h : PE X a (tD X.K Tb W f)) : PE X (.BoolOp op [a] pos) (tD X.K Tb W f) := pe_one h
theorem asB_of {d : PyData} {v : V} {α β : Type} {Rl : Hp → β → α → Prop} {k : Bool → R α} {Q : β → Hp → Prop} {G : Hp} (r : Rp K G v d) (h : Post K O Rl Wx H (asB d >>= k) Q) : ∃ b, v = .bl b ∧ Post K O Rl Wx H (k b) Q := by
  unfold asB at h
  split at h
  · cases r; exact ⟨_, rfl, h⟩
  · exact h.elim
theorem fd_and (ha : PE X a (tD X.K Tb W f)) (hb : PE X (.BoolOp .And (b :: rest) pos) (tD X.K Tb W g)) : PE X (.BoolOp .And (a :: b :: rest) pos) (tD X.K Tb W (dAndV f g)) :=
  (pe_and ha hb).by fun σ H Q ⟨H0, O0, O, ρ, st, h⟩ => ⟨H0, O0, O, ρ, st, by
    refine Post.then h fun d v H1 e r k => ?_
    obtain ⟨b, rfl, k⟩ := asB_of r k
    refine ⟨b, rfl, ?_⟩
    cases b with
    | true => exact ⟨H0, O0, O, ρ, st.step e, k⟩
    | false => exact Post.here k (.bl _)⟩
theorem fd_not (ha : PE X a (tD X.K Tb W f)) : PE X (.UnaryOp .Not a pos) (tD X.K Tb W (dNotV f)) := (pe_not ha).by fun σ H Q ⟨H0, O0, O, ρ, st, h⟩ => ⟨H0, O0, O, ρ, st, by
    refine Post.then h fun d v H1 e r k => ?_
    obtain ⟨b, rfl, k⟩ := asB_of r k
    exact ⟨b, rfl, Post.here k (.bl _)⟩⟩
theorem fd_if (hc : PT X c (tDT X.K Tb W fb)) (ha : PE X a (tD X.K Tb W f)) (hb : PE X b (tD X.K Tb W g)) : PE X (.IfExp c a b pos) (tD X.K Tb W (dIf fb f g)) := (pe_ifExp hc ha hb).by fun σ H Q ⟨H0, O0, O, ρ, st, h⟩ => ⟨H0, O0, O, ρ, st, by
    refine Post.then h fun d v H1 e r k => ?_
    cases (show v = d from r)
    cases d with
    | true => exact ⟨H0, O0, O, ρ, st.step e, k⟩
    | false => exact ⟨H0, O0, O, ρ, st.step e, k⟩⟩
theorem atI_rp {G : Hp} {vs : List V} {ds : List PyData} {i : Int} {d : PyData} (r : RpAll K G vs ds) (h : atI ds i = some d) : ∃ v, atI vs i = some v ∧ Rp K G v d := by
  unfold atI at h ⊢
  rw [r.length]
  cases e : ixN ds.length i with
  | none => rw [e] at h; cases h
  | some j =>
    rw [e] at h
    exact r.get' h
theorem ok_ix : Ok2 K (rIx K) oIx := by
  intro O H Wx x y d e Q al hx hy h
  unfold oIx at h
  split at h
  · cases hy
    cases hx with
    | lst h1 z1 a1 =>
      split at h
      · rename_i e
        obtain ⟨v, h2, h3⟩ := atI_rp a1 e
        exact .inl ⟨_, _, _, v, rfl, rfl, Sub.unhide.sqL h1, h2, Post.here h h3⟩
      · exact h.elim
  · cases hy
    cases hx with
    | tup h1 z1 a1 =>
      split at h
      · rename_i e
        obtain ⟨v, h2, h3⟩ := atI_rp a1 e
        exact .inr (.inl ⟨_, _, _, v, rfl, rfl, Sub.unhide.sqT h1, h2, Post.here h h3⟩)
      · exact h.elim
  · exact h.elim
theorem fd_ix (ha : PE X a (tD X.K Tb W f)) (hb : PE X b (tD X.K Tb W g)) (hs : PlainIx b) : PE X (.Subscript a b pos) (tD X.K Tb W (dTwo oIx f g)) := (pe_ix ix_seq ha hb hs).by fun σ H Q h => tD_two ok_ix h
theorem _root_.L2.PO.by {X : Cx} {e : Option Expr} {t t' : TO} (h : PO X e t) (i : ∀ σ H Q, t' σ H Q → t σ H Q) : PO X e t' := ⟨fun pins s σ H Q I q => h.run pins s σ H Q I (i σ H Q q)⟩
end
end PD
set_option Elab.async false
set_option linter.all false
set_option maxRecDepth 100000
set_option maxHeartbeats 1000000
namespace PD
open PySem PySem.Spec PyProof.Rows L2
def bLen : List PyData → R PyData
  | [d] => (items d) >>= fun xs => .ok (.int xs.length)
  | _ => .bad
def bInt : List PyData → R PyData
  | [.int i] => .ok (.int i)
  | [.bool b] => .ok (.int (if b then 1 else 0))
  | _ => .bad
def bAbs : List PyData → R PyData
  | [.int i] => .ok (.int (if i < 0 then -i else i))
  | _ => .bad
def bTuple : List PyData → R PyData
  | [d] => (items d) >>= fun xs => .ok (.tuple xs)
  | _ => .bad
def bList : List PyData → R PyData
  | [d] => (items d) >>= fun xs => .ok (.list xs)
  | _ => .bad
def asInts : List PyData → Option (List Int)
  | [] => some []
  | .int i :: r => (asInts r).map fun k => i :: k
  | _ :: _ => none
def asBools : List PyData → Option (List Bool)
  | [] => some []
  | .bool i :: r => (asBools r).map fun k => i :: k
  | _ :: _ => none
def ofO {α : Type} (x : Option α) (f : α → R PyData) : R PyData := match x with
  | some a => f a
  | none => .bad
def bSum : List PyData → R PyData
  | [.list xs] => ofO (asInts xs) fun ns => .ok (.int ns.sum)
  | _ => .bad
def maxI : List Int → Int
  | [] => 0
  | [x] => x
  | x :: r => max x (maxI r)
def bMax : List PyData → R PyData
  | [.list xs] => ofO (asInts xs) fun ns => if 0 < ns.length then .ok (.int (maxI ns)) else .bad
  | _ => .bad
def bMin2 : List PyData → R PyData
  | [.int i, .int j] => .ok (.int (if j < i then j else i))
  | _ => .bad
def bAny : List PyData → R PyData
  | [.list xs] => ofO (asBools xs) fun ns => .ok (.bool (ns.any id))
  | _ => .bad
def bAll : List PyData → R PyData
  | [.list xs] => ofO (asBools xs) fun ns => .ok (.bool (ns.all id))
  | _ => .bad
/-- isinstance(x, T) of data: T one of int, bool, tuple, list, str -/
def isiD (T : String) : PyData → Option Bool
  | .none => kitB "NoneType" T
  | .bool _ => kitB "bool" T
  | .int _ => kitB "int" T
  | .str _ => kitB "str" T
  | .list _ => kitB "list" T
  | .tuple _ => kitB "tuple" T
  | .dict _ => none
def oIsi (T : String) (d : PyData) : R PyData := match isiD T d with
  | some b => .ok (.bool b)
  | none => .bad
theorem maxI_mem : ∀ {ns : List Int}, 0 < ns.length → maxI ns ∈ ns
  | [], h => by simp at h
  | [x], _ => by simp [maxI]
  | x :: y :: r, _ => by
    have ih := maxI_mem (ns := y :: r) (by simp)
    show max x (maxI (y :: r)) ∈ x :: y :: r
    rcases Int.le_total x (maxI (y :: r)) with h | h
    · rw [Int.max_eq_right h]; exact List.mem_cons_of_mem _ ih
    · rw [Int.max_eq_left h]; exact List.mem_cons_self
theorem le_maxI : ∀ {ns : List Int} {y : Int}, y ∈ ns → y ≤ maxI ns
  | [], _, h => by simp at h
  | [x], y, h => by simp at h; subst h; simp [maxI]
  | x :: z :: r, y, h => by
    show y ≤ max x (maxI (z :: r))
    rcases List.mem_cons.mp h with rfl | h
    · exact Int.le_max_left _ _
    · exact Int.le_trans (le_maxI h) (Int.le_max_right _ _)
section
variable {X : Cx} {Tb : List Addr} {W : WX} {K : PySem.W.Frag} {O : List Addr} {H : Hp} {σ : L2.St} {Wx : Value → Option Addr → Hp → Prop}
theorem ints_rp {G : Hp} : ∀ {vs : List V} {ds : List PyData} {ns : List Int}, RpAll K G vs ds → asInts ds = some ns → vs = ns.map V.int
  | _, _, _, .nil, h => by cases h; rfl
  | _, _, _, .cons (d := d) (ds := ds) r t, h => by
    cases r with
    | int i =>
      obtain ⟨k, e, rfl⟩ := Option.map_eq_some_iff.mp h
      rw [ints_rp t e]; rfl
    | _ => cases h
theorem bools_rp {G : Hp} : ∀ {vs : List V} {ds : List PyData} {ns : List Bool}, RpAll K G vs ds → asBools ds = some ns → vs = ns.map V.bl
  | _, _, _, .nil, h => by cases h; rfl
  | _, _, _, .cons (d := d) (ds := ds) r t, h => by
    cases r with
    | bl i =>
      obtain ⟨k, e, rfl⟩ := Option.map_eq_some_iff.mp h
      rw [bools_rp t e]; rfl
    | _ => cases h
theorem ofO_post {α : Type} {x : Option α} {f : α → R PyData} {Q : VK} (h : Post K O (RlD K O) Wx H (ofO x f) Q) : ∃ a, x = some a ∧ Post K O (RlD K O) Wx H (f a) Q := by
  cases x with
  | some a => exact ⟨a, rfl, h⟩
  | none => exact h.elim
theorem ok_len : OkL K (fun xs H Q => ∃ p ys, xs = [.ref p] ∧ (SqL K H p ys ∨ SqT K H p ys) ∧ Q (.int ys.length) H) bLen := by
  intro O H Wx vs ds Q al r h
  unfold bLen at h
  split at h
  · cases r with
    | cons r1 r2 =>
      cases r2
      unfold items at h
      split at h
      · cases r1 with
        | lst h1 z1 a1 => exact ⟨_, _, rfl, .inl (Sub.unhide.sqL h1), by rw [a1.length]; exact Post.here h (.int _)⟩
      · cases r1 with
        | tup h1 z1 a1 => exact ⟨_, _, rfl, .inr (Sub.unhide.sqT h1), by rw [a1.length]; exact Post.here h (.int _)⟩
      · exact h.elim
  · exact h.elim
theorem ok_int : OkL K (fun xs H Q => (∃ i, xs = [.int i] ∧ Q (.int i) H) ∨ ∃ k, xs = [.bl k] ∧ Q (.int (if k then 1 else 0)) H) bInt := by
  intro O H Wx vs ds Q al r h
  unfold bInt at h
  split at h
  · cases r with
    | cons r1 r2 => cases r2; cases r1; exact .inl ⟨_, rfl, Post.here h (.int _)⟩
  · cases r with
    | cons r1 r2 => cases r2; cases r1; exact .inr ⟨_, rfl, Post.here h (.int _)⟩
  · exact h.elim
theorem ok_abs : OkL K (fun xs H Q => ∃ i, xs = [.int i] ∧ Q (.int (if i < 0 then -i else i)) H) bAbs := by
  intro O H Wx vs ds Q al r h
  unfold bAbs at h
  split at h
  · cases r with
    | cons r1 r2 => cases r2; cases r1; exact ⟨_, rfl, Post.here h (.int _)⟩
  · exact h.elim
theorem ok_tuple : OkL K (fun xs H Q => ∃ p ys, xs = [.ref p] ∧ ((SqL K H p ys ∧ ∀ l, H l = none → Q (.ref l) (upd H l (.tup ys))) ∨ (SqT K H p ys ∧ Q (.ref p) H))) bTuple := by
  intro O H Wx vs ds Q al r h
  unfold bTuple at h
  split at h
  · cases r with
    | cons r1 r2 =>
      cases r2
      unfold items at h
      split at h
      · cases r1 with
        | lst h1 z1 a1 => exact ⟨_, _, rfl, .inl ⟨Sub.unhide.sqL h1, Post.newTup al h z1 a1⟩⟩
      · cases r1 with
        | tup h1 z1 a1 => exact ⟨_, _, rfl, .inr ⟨Sub.unhide.sqT h1, Post.here h (.tup h1 z1 a1)⟩⟩
      · exact h.elim
  · exact h.elim
theorem ok_list : OkL K (fun xs H Q => ∃ p ys, xs = [.ref p] ∧ (SqL K H p ys ∨ SqT K H p ys) ∧ ∀ l, H l = none → Q (.ref l) (upd H l (.lst ys))) bList := by
  intro O H Wx vs ds Q al r h
  unfold bList at h
  split at h
  · cases r with
    | cons r1 r2 =>
      cases r2
      unfold items at h
      split at h
      · cases r1 with
        | lst h1 z1 a1 => exact ⟨_, _, rfl, .inl (Sub.unhide.sqL h1), Post.newLst al h z1 a1⟩
      · cases r1 with
        | tup h1 z1 a1 => exact ⟨_, _, rfl, .inr (Sub.unhide.sqT h1), Post.newLst al h z1 a1⟩
      · exact h.elim
  · exact h.elim
/-- of a list of ints -/
theorem ok_ints {g : List Int → R PyData} {u : List PyData → R PyData} {r : List V → Hp → VK → Prop} (hu : ∀ ds, (∃ xs, ds = [.list xs] ∧ u ds = ofO (asInts xs) g) ∨ u ds = .bad)
    (k : ∀ (O : List Addr) (H : Hp) (Wx : Value → Option Addr → Hp → Prop) (a : Addr) (ns : List Int) (Q : VK), Al O H → SqL K H a (ns.map V.int) → Post K O (RlD K O) Wx H (g ns) Q → r [.ref a] H Q) : OkL K r u := by
  intro O H Wx vs ds Q al rp h
  rcases hu ds with ⟨xs, rfl, e⟩ | e
  · rw [e] at h
    obtain ⟨ns, en, h⟩ := ofO_post h
    cases rp with
    | cons r1 r2 =>
      cases r2
      cases r1 with
      | lst h1 z1 a1 =>
        have q := ints_rp a1 en
        subst q
        exact k O H Wx _ ns Q al (Sub.unhide.sqL h1) h
  · rw [e] at h
    exact h.elim
theorem ok_bools {g : List Bool → R PyData} {u : List PyData → R PyData} {r : List V → Hp → VK → Prop} (hu : ∀ ds, (∃ xs, ds = [.list xs] ∧ u ds = ofO (asBools xs) g) ∨ u ds = .bad)
    (k : ∀ (O : List Addr) (H : Hp) (Wx : Value → Option Addr → Hp → Prop) (a : Addr) (ns : List Bool) (Q : VK), Al O H → SqL K H a (ns.map V.bl) → Post K O (RlD K O) Wx H (g ns) Q → r [.ref a] H Q) : OkL K r u := by
  intro O H Wx vs ds Q al rp h
  rcases hu ds with ⟨xs, rfl, e⟩ | e
  · rw [e] at h
    obtain ⟨ns, en, h⟩ := ofO_post h
    cases rp with
    | cons r1 r2 =>
      cases r2
      cases r1 with
      | lst h1 z1 a1 =>
        have q := bools_rp a1 en
        subst q
        exact k O H Wx _ ns Q al (Sub.unhide.sqL h1) h
  · rw [e] at h
    exact h.elim
theorem ok_max : OkL K (rMax K) bMax := ok_ints (fun ds => by unfold bMax; split; exact .inl ⟨_, rfl, rfl⟩; exact .inr rfl) fun O H Wx a ns Q al s h => by
  by_cases hn : 0 < ns.length
  · rw [if_pos hn] at h
    refine ⟨a, ns, rfl, s, hn, fun m h1 h2 => ?_⟩
    have e : m = maxI ns := Int.le_antisymm (le_maxI h1) (h2 _ (maxI_mem hn))
    rw [e]
    exact Post.here h (.int _)
  · rw [if_neg hn] at h
    exact h.elim
theorem ok_any : OkL K (rAny K) bAny := ok_bools (fun ds => by unfold bAny; split; exact .inl ⟨_, rfl, rfl⟩; exact .inr rfl) fun O H Wx a ns Q al s h => ⟨a, ns, rfl, s, Post.here h (.bl _)⟩
theorem ok_all : OkL K (rAll K) bAll := ok_bools (fun ds => by unfold bAll; split; exact .inl ⟨_, rfl, rfl⟩; exact .inr rfl) fun O H Wx a ns Q al s h => ⟨a, ns, rfl, s, Post.here h (.bl _)⟩
theorem ok_min2 : OkL K (fun xs H Q => ∃ i j, xs = [.int i, .int j] ∧ Q (.int (if j < i then j else i)) H) bMin2 := by
  intro O H Wx vs ds Q al r h
  unfold bMin2 at h
  split at h
  · cases r with
    | cons r1 r2 => cases r2 with
      | cons r2 r3 => cases r3; cases r1; cases r2; exact ⟨_, _, rfl, Post.here h (.int _)⟩
  · exact h.elim
variable {x : Str} {p pos : Pos} {e : Expr} {es : List Expr} {g : DnL} {id T : String} {r : List V → Hp → VK → Prop} {u : List PyData → R PyData}
theorem fd_callB (hc : CallR X (.builtin id) r) (hk : OkL X.K r u) (hg : Gl X x) (hm : X.mg x = none) (hv : bootBuiltins x = some (.builtin id)) (ha : PA X (e :: es) (tDs X.K Tb W g)) (hn : x ≠ "__name__" := by decide) (hdb : (x == ("__debug__" : Str)) = false := by decide)
    (he : starEach (e :: es) X.env = (false, eval e X.env) :: starEach es X.env := by rfl) (hpl : (backTo pos (starEach es X.env)).any (·.1) = false := by rfl) : PE X (.Call (.Name x p) (e :: es) [] pos) (tD X.K Tb W (dArg u g)) :=
  (pe_callB hc hg hm hv ha hn hdb he hpl).by fun σ H Q h => tD_arg hk h
theorem fd_callTy (hc : CallR X (.type T) r) (hk : OkL X.K r u) (hg : Gl X x) (hm : X.mg x = none) (hv : bootBuiltins x = some (.type T)) (ha : PA X (e :: es) (tDs X.K Tb W g)) (hn : x ≠ "__name__" := by decide) (hdb : (x == ("__debug__" : Str)) = false := by decide)
    (he : starEach (e :: es) X.env = (false, eval e X.env) :: starEach es X.env := by rfl) (hpl : (backTo pos (starEach es X.env)).any (·.1) = false := by rfl) : PE X (.Call (.Name x p) (e :: es) [] pos) (tD X.K Tb W (dArg u g)) :=
  (pe_callTy hc hg hm hv ha hn hdb he hpl).by fun σ H Q h => tD_arg hk h
theorem tyX_rp {G : Hp} {v : V} {d : PyData} {T : String} {b : Bool} (r : Rp K H v d) (h : isiD T d = some b) : ∃ t, TyX K H v (.type t) ∧ PySem.W.kitOne K (.type t) (.type T) = some b := by
  unfold isiD at h
  cases r with
  | non => exact ⟨_, .base .non, kit_ty h⟩
  | bl b => exact ⟨_, .base (.bl b), kit_ty h⟩
  | int b => exact ⟨_, .base (.int b), kit_ty h⟩
  | str b => exact ⟨_, .base (.str b), kit_ty h⟩
  | lst h1 z a =>
    rcases h1 with (h1 | ⟨o, h1⟩) | ⟨o, its, n, h1, h2, _⟩
    · exact ⟨_, .base (.lst h1), kit_ty h⟩
    · exact ⟨_, .base (.frz h1), kit_ty h⟩
    · exact ⟨_, .kList h1 h2, kit_ty h⟩
  | tup h1 z a =>
    rcases h1 with (h1 | ⟨o, h1⟩) | ⟨o, its, n, h1, h2, _⟩
    · exact ⟨_, .base (.tup h1), kit_ty h⟩
    · exact ⟨_, .fTuple h1, kit_ty h⟩
    · exact ⟨_, .kTuple h1 h2, kit_ty h⟩
  | dct _ _ => cases h
  | dk _ _ _ => cases h
  | ins _ _ _ => cases h
/-- isinstance(x, T) -/
theorem fd_isi {f : Dn} {a : Expr} {y : Str} {py : Pos} (ha : PE X a (tD X.K Tb W f)) (hg : Gl X "isinstance") (hm : X.mg "isinstance" = none) (hgy : Gl X y) (hmy : X.mg y = none) (hvy : bootBuiltins y = some (.type T)) (hny : y ≠ "__name__" := by decide) (hdy : (y == ("__debug__" : Str)) = false := by decide)
    (he : starEach [a, .Name y py] X.env = (false, eval a X.env) :: starEach [.Name y py] X.env := by rfl) (he2 : starEach [.Name y py] X.env = (false, eval (.Name y py) X.env) :: starEach [] X.env := by rfl) (hpl : (backTo pos (starEach [.Name y py] X.env)).any (·.1) = false := by rfl) :
    PE X (.Call (.Name "isinstance" p) [a, .Name y py] [] pos) (tD X.K Tb W (dOne (oIsi T) f)) :=
  (pe_callB call_isi hg hm boot_isinstance (pa_cons ha (pa_cons (pe_bltn (v := .ty T) hgy hmy hvy rfl hny hdy) pa_nil he2) he) (by decide) (by decide) he hpl).by fun σ H Q ⟨H0, O0, O, ρ, st, h⟩ => ⟨H0, O0, O, ρ, st, by
    refine Post.then h fun d v H1 e r k => ?_
    unfold oIsi at k
    split at k
    · rename_i b hb
      obtain ⟨t, h1, h2⟩ := tyX_rp (G := H1) (r.mono Sub.unhide) hb
      exact ⟨v, .ty T, .type t, .type T, b, rfl, .ty T, h1, h2, Post.here k (.bl b)⟩
    · exact k.elim⟩
end
end PD
set_option Elab.async false
set_option linter.all false
set_option maxRecDepth 100000
set_option maxHeartbeats 1000000
namespace PD
open PySem PySem.Spec PyProof.Rows L2
structure ItD (K : PySem.W.Frag) (G : Hp) (J : It) (ds : List PyData) : Prop where
  len : ds.length ≤ sizeLine
  go : ∀ i H', Ext G H' → i < ds.length → J.go i H'
  yld : ∀ i H' (O' : List Addr) x H'', Ext G H' → (∀ b ∈ O', G b = none) → Al O' H' → i < ds.length → J.yld i H' x H'' → Ext H' H'' ∧ ∃ d, ds[i]? = some d ∧ Rp K (hide O' H'') x d
  stop : ∀ H', Ext G H' → J.stop ds.length H'
def tI (K : PySem.W.Frag) (Tb : List Addr) (W : WX) (f : DnL) : TI := fun σ H R => ∃ H0 O0 O ρ, St0 K Tb H0 O0 O H σ ρ ∧ Post K O (fun H' J ds => ItD K (hide O H') J ds) (fun c d H => W c d σ H) H (f ρ) R
theorem _root_.L2.PI.by {X : Cx} {tg iter : Expr} {t t' : TI} (h : PI X tg iter t) (i : ∀ σ H Q, t' σ H Q → t σ H Q) : PI X tg iter t' := ⟨fun pins s σ H Q I q => h.run pins s σ H Q I (i σ H Q q)⟩
section
variable {K : PySem.W.Frag} {G H H' H'' : Hp} {O O' : List Addr} {a : Addr} {ds : List PyData} {xs : List V}
theorem Ext.under (e : Ext G H') (n : ∀ b ∈ O', G b = none) : Sub G (hide O' H') := fun b o h h2 => by
  have hb : b ∉ O' := fun m => by rw [n b m] at h; cases h
  rw [hide_out hb]
  exact e.keep b o h h2
theorem itd_list (h : SqL K G a xs) (z : ds.length ≤ sizeLine) (r : RpAll K G xs ds) : ItD K G (Itl K a) ds where
  len := z
  go := fun i H' e hi => by
    have hx : i < xs.length := by rw [r.length]; exact hi
    exact ⟨xs, xs[i], (Sub.ext e).sqL h, List.getElem?_eq_getElem hx⟩
  yld := fun i H' O' x H'' e n al hi y => by
    obtain ⟨rfl, y⟩ := y
    have q := y xs ((Sub.ext e).sqL h)
    obtain ⟨d, h1, h2⟩ := r.get q
    exact ⟨Ext.refl _, d, h1, h2.mono (e.under n)⟩
  stop := fun H' e => ⟨xs, (Sub.ext e).sqL h, by rw [r.length]; exact Nat.le_refl _⟩
theorem itd_tup (h : SqT K G a xs) (z : ds.length ≤ sizeLine) (r : RpAll K G xs ds) : ItD K G (Itt K a) ds where
  len := z
  go := fun i H' e hi => by
    have hx : i < xs.length := by rw [r.length]; exact hi
    exact ⟨xs, xs[i], (Sub.ext e).sqT h, List.getElem?_eq_getElem hx⟩
  yld := fun i H' O' x H'' e n al hi y => by
    obtain ⟨rfl, y⟩ := y
    have q := y xs ((Sub.ext e).sqT h)
    obtain ⟨d, h1, h2⟩ := r.get q
    exact ⟨Ext.refl _, d, h1, h2.mono (e.under n)⟩
  stop := fun H' e => ⟨xs, (Sub.ext e).sqT h, by rw [r.length]; exact Nat.le_refl _⟩
/-- lo, lo + 1, .. -/
def rngD (lo : Int) (n : Nat) : List PyData := (List.range n).map fun i => .int (lo + (i : Nat))
theorem itd_rng {lo : Int} {n : Nat} (z : n ≤ sizeLine) : ItD K G (Itr lo n) (rngD lo n) where
  len := by unfold rngD; rw [List.length_map, List.length_range]; exact z
  go := fun i H' e hi => by
    unfold rngD at hi; rw [List.length_map, List.length_range] at hi; exact hi
  yld := fun i H' O' x H'' e n' al hi y => by
    obtain ⟨rfl, rfl⟩ := y
    unfold rngD at hi ⊢
    rw [List.length_map, List.length_range] at hi
    exact ⟨Ext.refl _, _, by rw [List.getElem?_map, List.getElem?_range hi]; rfl, .int _⟩
  stop := fun H' e => by
    unfold rngD
    rw [List.length_map, List.length_range]
    exact Nat.le_refl n
end
section
variable {X : Cx} {Tb : List Addr} {W : WX} {tg : Expr}
theorem pi_both {l : Expr} {tl : TE} (hl : PE X l tl) : PI X tg l (fun σ H R => tl σ H fun x H1 => ∃ a, x = .ref a ∧ (((∃ xs, SqL X.K H1 a xs) ∧ R (Itl X.K a) H1) ∨ ((∃ xs, SqT X.K H1 a xs) ∧ R (Itt X.K a) H1))) := by
  refine ⟨fun pins s σ H R I h => ?_⟩
  refine thn (hl.run pins s σ H _ I h) fun v s1 ⟨x, H1, I1, r1, q1⟩ => ?_
  obtain ⟨a, e, q | q⟩ := q1
  · have k : PI X tg (.Name "x" ⟨0, 0, 0, 0⟩) (fun _ H' R' => H' = H1 ∧ R' = R) → True := fun _ => trivial
    obtain ⟨⟨xs, hq⟩, q⟩ := q
    subst e
    cases r1
    obtain ⟨its, rv, p, hz⟩ := I1.list hq
    refine wpAny_pyIter_list p.isList ?_
    have f : FpOk X pins H1 s1.heap.objs.size := I1.fpOk (Nat.le_refl _) (I1.hok.fresh (Nat.le_refl _))
    exact ⟨s1.heap.objs.size, [s1.heap.objs.size], _, _, H1, rfl, I1.kept (t' := s1.toks) fun b o e => Heap.get?_push_of_some _ e, turn_list a _, ⟨_, Heap.get?_push_size _ rfl, rfl, rfl⟩, fun b hb => (List.mem_singleton.mp hb) ▸ f, q⟩
  · obtain ⟨⟨xs, hq⟩, q⟩ := q
    subst e
    cases r1
    obtain ⟨its, rv, p, hz⟩ := I1.tuple hq
    refine wpAny_pyIter_tuple (show s1.heap.IsTuple a its.toArray from p) ?_
    have f : FpOk X pins H1 s1.heap.objs.size := I1.fpOk (Nat.le_refl _) (I1.hok.fresh (Nat.le_refl _))
    exact ⟨s1.heap.objs.size, [s1.heap.objs.size], _, _, H1, rfl, I1.kept (t' := s1.toks) fun b o e => Heap.get?_push_of_some _ e, turn_tuple a _, ⟨_, Heap.get?_push_size _ rfl, rfl, rfl⟩, fun b hb => (List.mem_singleton.mp hb) ▸ f, q⟩
def dItems (f : Dn) : DnL := fun ρ => f ρ >>= items
theorem fi_seq {l : Expr} {f : Dn} (hl : PE X l (tD X.K Tb W f)) : PI X tg l (tI X.K Tb W (dItems f)) := (pi_both hl).by fun σ H R ⟨H0, O0, O, ρ, st, h⟩ => ⟨H0, O0, O, ρ, st, by
  refine Post.then h fun d v H1 e r k => ?_
  unfold items at k
  split at k
  · cases r with
    | lst h1 z1 a1 => exact ⟨_, rfl, .inl ⟨⟨_, Sub.unhide.sqL h1⟩, k _ H1 (Ext.refl _) (itd_list h1 z1 a1)⟩⟩
  · cases r with
    | tup h1 z1 a1 => exact ⟨_, rfl, .inr ⟨⟨_, Sub.unhide.sqT h1⟩, k _ H1 (Ext.refl _) (itd_tup h1 z1 a1)⟩⟩
  · exact k.elim⟩
def rngA1 : List PyData → R (List PyData)
  | [.int n] => if -(2 ^ 62) ≤ n ∧ n.toNat ≤ sizeLine then .ok (rngD 0 n.toNat) else .bad
  | _ => .bad
def rngA2 : List PyData → R (List PyData)
  | [.int a, .int b] => if (-(2 ^ 62) ≤ a ∧ a < 2 ^ 62 ∧ -(2 ^ 62) ≤ b ∧ b < 2 ^ 62) ∧ (b - a).toNat ≤ sizeLine then .ok (rngD a (b - a).toNat) else .bad
  | _ => .bad
def dRng1 (g : DnL) : DnL := fun ρ => g ρ >>= rngA1
def dRng2 (g : DnL) : DnL := fun ρ => g ρ >>= rngA2
theorem line62 : (sizeLine : Int) < 2 ^ 62 := by rw [sizeLine_eq]; decide
theorem fi_rng1 {a : Expr} {g : DnL} {p pos : Pos} (hg : Gl X "range") (hm : X.mg "range" = none) (ha : PA X [a] (tDs X.K Tb W g)) (hs : starEach [a] X.env = [(false, eval a X.env)] := by rfl) : PI X tg (.Call (.Name "range" p) [a] [] pos) (tI X.K Tb W (dRng1 g)) :=
  (pi_range1 hg hm ha hs).by fun σ H R' ⟨H0, O0, O, ρ, st, h⟩ => ⟨H0, O0, O, ρ, st, by
    refine Post.then h fun d v H1 e r k => ?_
    unfold rngA1 at k
    split at k
    · split at k
      · rename_i z
        cases r with
        | cons r1 r2 =>
          cases r2
          cases r1
          have := line62
          exact ⟨_, rfl, z.1, by omega, k _ H1 (Ext.refl _) (itd_rng z.2)⟩
      · exact k.elim
    · exact k.elim⟩
theorem fi_rng2 {a b : Expr} {g : DnL} {p pos : Pos} (hg : Gl X "range") (hm : X.mg "range" = none) (ha : PA X [a, b] (tDs X.K Tb W g)) (hs : starEach [a, b] X.env = [(false, eval a X.env), (false, eval b X.env)] := by rfl) (hs2 : starEach [b] X.env = [(false, eval b X.env)] := by rfl) :
    PI X tg (.Call (.Name "range" p) [a, b] [] pos) (tI X.K Tb W (dRng2 g)) :=
  (pi_range2 hg hm ha hs hs2).by fun σ H R' ⟨H0, O0, O, ρ, st, h⟩ => ⟨H0, O0, O, ρ, st, by
    refine Post.then h fun d v H1 e r k => ?_
    unfold rngA2 at k
    split at k
    · split at k
      · rename_i z
        cases r with
        | cons r1 r2 =>
          cases r2 with
          | cons r2 r3 =>
            cases r3
            cases r1
            cases r2
            exact ⟨_, _, rfl, z.1, k _ H1 (Ext.refl _) (itd_rng z.2)⟩
      · exact k.elim
    · exact k.elim⟩
inductive Tg where
  | nm (i : Nat)
  | tp (ts : List Tg)
mutual
def Tg.set : Tg → PyData → Rho → Option Rho
  | .nm i, d, ρ => some (ρ.set i (some (.d d)))
  | .tp ts, d, ρ => match d with
    | .tuple ds => Tg.sets ts ds ρ
    | _ => none
def Tg.sets : List Tg → List PyData → Rho → Option Rho
  | [], [], ρ => some ρ
  | t :: ts, d :: ds, ρ => (Tg.set t d ρ).bind fun ρ' => Tg.sets ts ds ρ'
  | _, _, _ => none
end
mutual
def Tg.ixs : Tg → List Nat
  | .nm i => [i]
  | .tp ts => Tg.ixss ts
def Tg.ixss : List Tg → List Nat
  | [] => []
  | t :: ts => Tg.ixs t ++ Tg.ixss ts
end
/-- but for the places is -/
def Agr (is : List Nat) (σ σ' : L2.St) : Prop := σ'.length = σ.length ∧ ∀ j, j ∉ is → σ'[j]? = σ[j]?
theorem Agr.refl (is : List Nat) (σ : L2.St) : Agr is σ σ := ⟨rfl, fun _ _ => rfl⟩
theorem Agr.trans {is js : List Nat} {σ σ1 σ2 : L2.St} (a : Agr is σ σ1) (b : Agr js σ1 σ2) : Agr (is ++ js) σ σ2 :=
  ⟨b.1.trans a.1, fun j h => by rw [List.mem_append, not_or] at h; rw [b.2 j h.2, a.2 j h.1]⟩
theorem wipe_in {σ : L2.St} {j : Nat} : ∀ {vs : List Nat}, j ∈ vs → j < σ.length → (wipe σ vs)[j]? = some none
  | v :: vs, h, hl => by
    unfold wipe
    by_cases e : v = j
    · subst e
      rw [List.getElem?_set_self (by rw [wipe_length]; exact hl)]
    · rw [List.getElem?_set_ne e]
      rcases List.mem_cons.mp h with h | h
      · exact absurd h.symm e
      · exact wipe_in h hl
theorem Agr.wipe {is vs : List Nat} {σ σ' : L2.St} (a : Agr is σ σ') (h : ∀ i ∈ is, i ∈ vs) : L2.wipe σ' vs = L2.wipe σ vs := by
  apply List.ext_getElem?
  intro j
  by_cases hj : j ∈ vs
  · by_cases hl : j < σ.length
    · rw [wipe_in hj hl, wipe_in hj (by rw [a.1]; exact hl)]
    · rw [List.getElem?_eq_none (by rw [wipe_length, a.1]; omega), List.getElem?_eq_none (by rw [wipe_length]; omega)]
  · rw [wipe_out hj, wipe_out hj, a.2 j fun m => hj (h j m)]
/-- a target: the value v, that reads as d, is stored -/
def tG (K : PySem.W.Frag) (Tb : List Addr) (t : Tg) : TG := fun v σ H Q => ∃ H0 O0 O ρ ρ' d, St0 K Tb H0 O0 O H σ ρ ∧ Rp K (hide O H) v d ∧ t.set d ρ = some ρ' ∧ ∀ σ', St0 K Tb H0 O0 O H σ' ρ' → Agr t.ixs σ σ' → Q σ' H
def tGs (K : PySem.W.Frag) (Tb : List Addr) (ts : List Tg) : TGs := fun vs σ H Q => ∃ H0 O0 O ρ ρ' ds, St0 K Tb H0 O0 O H σ ρ ∧ RpAll K (hide O H) vs ds ∧ Tg.sets ts ds ρ = some ρ' ∧ ∀ σ', St0 K Tb H0 O0 O H σ' ρ' → Agr (Tg.ixss ts) σ σ' → Q σ' H
theorem _root_.L2.PG.by {X : Cx} {tg : Expr} {t t' : TG} (h : PG X tg t) (i : ∀ v σ H Q, t' v σ H Q → t v σ H Q) : PG X tg t' := ⟨fun pins s σ H v u Q I r q => h.run pins s σ H v u Q I r (i v σ H Q q)⟩
theorem _root_.L2.PGs.by {X : Cx} {tg : List Expr} {t t' : TGs} (h : PGs X tg t) (i : ∀ v σ H Q, t' v σ H Q → t v σ H Q) : PGs X tg t' := ⟨fun pins s σ H v u Q I r q => h.run pins s σ H v u Q I r (i v σ H Q q)⟩
theorem St0.set {K : PySem.W.Frag} {H0 H : Hp} {O0 O : List Addr} {ρ : Rho} {σ : L2.St} {i : Nat} {v : V} {d : PyData} (st : St0 K Tb H0 O0 O H σ ρ) (r : Rp K (hide O H) v d) : St0 K Tb H0 O0 O H (σ.set i (some v)) (ρ.set i (some (.d d))) where
  ext := st.ext
  sub := st.sub
  new := st.new
  al := st.al
  tab := st.tab
  pln := st.pln
  len := by rw [List.length_set, List.length_set]; exact st.len
  slot := fun j x h => by
    by_cases e : i = j
    · subst e
      have hl : i < ρ.length := by
        have := (List.getElem?_eq_some_iff.mp h).1
        rw [List.length_set] at this
        exact this
      rw [List.getElem?_set_self hl] at h
      cases h
      exact ⟨v, by rw [List.getElem?_set_self (by rw [st.len]; exact hl)], r⟩
    · rw [List.getElem?_set_ne e] at h ⊢
      exact st.slot j x h
  inj := fun j k p xs ys hx hy h1 h2 h3 h4 => by
    by_cases e : i = j
    · subst e
      have hl : i < ρ.length := by
        have := (List.getElem?_eq_some_iff.mp h1).1
        rw [List.length_set] at this
        exact this
      rw [List.getElem?_set_self hl] at h1
      cases h1
      exact hx.elim
    · by_cases e2 : i = k
      · subst e2
        have hl : i < ρ.length := by
          have := (List.getElem?_eq_some_iff.mp h2).1
          rw [List.length_set] at this
          exact this
        rw [List.getElem?_set_self hl] at h2
        cases h2
        exact hy.elim
      · rw [List.getElem?_set_ne e] at h1 h3
        rw [List.getElem?_set_ne e2] at h2 h4
        exact st.inj j k p xs ys hx hy h1 h2 h3 h4
theorem fg_nm {i : Nat} {x : Str} {pos : Pos} (hN : X.N.Nodup) (hi : X.N[i]? = some x) (hx : Loc X.env.scope x) (hf : X.fn x = true ∨ X.env.scope.names.lookup x = some .local := by first | exact .inl rfl | exact .inr rfl | assumption) : PG X (.Name x pos) (tG X.K Tb (.nm i)) :=
  (pg_name hN hi hx hf).by fun v σ H Q ⟨H0, O0, O, ρ, ρ', d, st, r, e, q⟩ => by
    unfold Tg.set at e
    cases e
    refine q _ (st.set r) ⟨by rw [List.length_set], fun j hj => ?_⟩
    unfold Tg.ixs at hj
    rw [List.getElem?_set_ne (fun e => hj (by rw [e]; exact List.mem_singleton.mpr rfl))]
theorem fgs_nil : PGs X [] (tGs X.K Tb []) := pgs_nil.by fun v σ H Q ⟨H0, O0, O, ρ, ρ', ds, st, r, e, q⟩ => by
  cases r with
  | nil =>
    unfold Tg.sets at e
    cases e
    exact ⟨rfl, q _ st (Agr.refl _ _)⟩
  | cons _ _ => unfold Tg.sets at e; cases e
theorem fgs_cons {e : Expr} {es : List Expr} {t : Tg} {ts : List Tg} (h1 : PG X e (tG X.K Tb t)) (h2 : PGs X es (tGs X.K Tb ts))
    (hs : (assignEach (e :: es) X.env).map (·.2) = assign e X.env :: (assignEach es X.env).map (·.2) := by rfl) : PGs X (e :: es) (tGs X.K Tb (t :: ts)) := (pgs_cons h1 h2 hs).by fun v σ H Q ⟨H0, O0, O, ρ, ρ', ds, st, r, e, q⟩ => by
  cases r with
  | nil => unfold Tg.sets at e; cases e
  | @cons v vs d ds r1 r2 =>
    unfold Tg.sets at e
    cases e1 : Tg.set t d ρ with
    | none => rw [e1] at e; cases e
    | some ρ1 =>
      rw [e1] at e
      refine ⟨v, vs, rfl, H0, O0, O, ρ, ρ1, d, st, r1, e1, fun σ' st' ag => ?_⟩
      refine ⟨H0, O0, O, ρ1, ρ', ds, st', r2, e, fun σ2 st2 ag2 => q _ st2 ?_⟩
      unfold Tg.ixss
      exact ag.trans ag2
theorem fg_tup {es : List Expr} {k : Nat} {ts : List Tg} {pos : Pos} {n : Nat} (hc : X.calm = true) (h : PGs X es (tGs X.K Tb ts)) (hn : (assignEach es X.env).length = n := by rfl) (hst : (assignEach es X.env).findIdx? (·.1) = none := by rfl) (hl : ts.length = n := by rfl) :
    PG X (.Tuple es k pos) (tG X.K Tb (.tp ts)) := (pg_tup hc h hn hst).by fun v σ H Q ⟨H0, O0, O, ρ, ρ', d, st, r, e, q⟩ => by
  unfold Tg.set at e
  split at e
  · cases r with
    | tup h1 z1 a1 =>
      rename_i xs ds _
      have hlen : ∀ (ts : List Tg) (ds : List PyData) (ρ ρ' : Rho), Tg.sets ts ds ρ = some ρ' → ds.length = ts.length := by
        intro ts
        induction ts with
        | nil => intro ds ρ ρ' e; cases ds with
          | nil => rfl
          | cons _ _ => unfold Tg.sets at e; cases e
        | cons t ts ih => intro ds ρ ρ' e; cases ds with
          | nil => unfold Tg.sets at e; cases e
          | cons d ds =>
            unfold Tg.sets at e
            cases e1 : Tg.set t d ρ with
            | none => rw [e1] at e; cases e
            | some ρ1 =>
              rw [e1] at e
              rw [List.length_cons, List.length_cons, ih _ _ _ e]
      refine ⟨_, _, rfl, Sub.unhide.sqT h1, ?_, H0, O0, O, ρ, ρ', _, st, a1, e, fun σ' st' ag => q σ' st' ?_⟩
      · rw [a1.length, hlen _ _ _ _ e, hl]
      · unfold Tg.ixs
        exact ag
  · cases e
end
end PD
set_option Elab.async false
set_option linter.all false
set_option maxRecDepth 100000
set_option maxHeartbeats 1000000
namespace PD
open PySem PySem.Spec PyProof.Rows L2
def nx {α β : Type} (x : R α) (k : α → R β) : R β := match x with
  | .ok a => k a
  | _ => .bad
theorem nx_ok {α β : Type} {x : R α} {k : α → R β} {b : β} (h : nx x k = .ok b) : ∃ a, x = .ok a ∧ k a = .ok b := by
  cases x with
  | ok a => exact ⟨a, rfl, h⟩
  | exc e => cases h
  | bad => cases h
@[simp] theorem nx_ok' {α β : Type} {a : α} {k : α → R β} : nx (.ok a) k = k a := rfl
def wipeR (ρ : Rho) : List Nat → Rho
  | [] => ρ
  | v :: vs => (wipeR ρ vs).set v none
def lcGo (t : Tg) (ft : DnB) (fe : Dn) (ρ : Rho) : List PyData → R (List PyData)
  | [] => .ok []
  | d :: ds => match t.set d ρ with
    | some ρ1 => nx (ft ρ1) fun b => if b = true then nx (fe ρ1) fun y => nx (lcGo t ft fe ρ ds) fun ys => .ok (y :: ys) else lcGo t ft fe ρ ds
    | none => .bad
def dLc (fi : DnL) (t : Tg) (ft : DnB) (fe : Dn) (vs : List Nat) : Dn := fun ρ => fi ρ >>= fun ds => nx (lcGo t ft fe (wipeR ρ vs) ds) fun ys => .ok (.list ys)
def W0 : WX := fun _ _ _ _ => False
def dYes : DnB := fun _ => .ok true
theorem wipeR_length (ρ : Rho) : ∀ vs : List Nat, (wipeR ρ vs).length = ρ.length
  | [] => rfl
  | v :: vs => by unfold wipeR; rw [List.length_set, wipeR_length ρ vs]
theorem wipeR_some {ρ : Rho} {i : Nat} {x : Sl} : ∀ {vs : List Nat}, (wipeR ρ vs)[i]? = some (some x) → ρ[i]? = some (some x) ∧ i ∉ vs
  | [], h => ⟨h, by simp⟩
  | v :: vs, h => by
    unfold wipeR at h
    by_cases hi : v = i
    · subst hi
      by_cases hv : v < (wipeR ρ vs).length
      · rw [List.getElem?_set_self hv] at h; cases h
      · rw [List.getElem?_eq_none (by simpa using hv)] at h; cases h
    · rw [List.getElem?_set_ne hi] at h
      obtain ⟨h1, h2⟩ := wipeR_some h
      exact ⟨h1, by simp only [List.mem_cons, not_or]; exact ⟨fun e => hi e.symm, h2⟩⟩
theorem wipe_wipe {σ : L2.St} {vs : List Nat} : L2.wipe (L2.wipe σ vs) vs = L2.wipe σ vs := by
  refine Agr.wipe (is := vs) ⟨wipe_length _ _, fun j h => wipe_out h⟩ fun _ h => h
section
variable {K : PySem.W.Frag} {Tb : List Addr} {H0 H H1 : Hp} {O0 O : List Addr} {ρ : Rho} {σ : L2.St} {D p : Addr} {o : HO}
theorem St0.wiped (st : St0 K Tb H0 O0 O H σ ρ) (vs : List Nat) : St0 K Tb H0 O0 O H (L2.wipe σ vs) (wipeR ρ vs) where
  ext := st.ext
  sub := st.sub
  new := st.new
  al := st.al
  tab := st.tab
  pln := st.pln
  len := by rw [wipe_length, wipeR_length]; exact st.len
  slot := fun i x h => by
    obtain ⟨h1, h2⟩ := wipeR_some h
    obtain ⟨v, h3, h4⟩ := st.slot i x h1
    exact ⟨v, by rw [wipe_out h2]; exact h3, h4⟩
  inj := fun i j p xs ys hx hy h1 h2 h3 h4 => by
    obtain ⟨a1, a2⟩ := wipeR_some h1
    obtain ⟨b1, b2⟩ := wipeR_some h2
    rw [wipe_out a2] at h3
    rw [wipe_out b2] at h4
    exact st.inj i j p xs ys hx hy a1 b1 h3 h4
theorem tabG_ne {H : Hp} {P p : Addr} (t : TabC H P) (h : ∀ ps, H p ≠ some (.tbl ps)) : P ≠ p := fun e => by
  obtain ⟨ps, q, _⟩ := t
  rw [e] at q
  exact h ps q
theorem Ext.updN (e : Ext H H1) (n : H D = none) (pl : ∀ c q, H1 D ≠ some (LamX.CodeO c q)) : Ext H (upd H1 D o) where
  keep := fun b x h t => by
    rw [upd_ne (ne_of_none h n)]
    exact e.keep b x h t
  tab := fun b t => by
    have hb : b ≠ D := tabG_ne t fun ps q => by rw [n] at q; cases q
    exact (e.tab b t).mono (fun ps h => by rw [upd_ne hb]; exact h) fun c q h => by rw [upd_ne fun z => pl c q (by rw [← z]; exact h)]; exact h
  al := fun b h => by
    by_cases hb : b = D
    · rw [hb, upd_same]; simp
    · rw [upd_ne hb]; exact e.al b h
theorem hide_upd (m : p ∈ O) : hide O (upd H p o) = hide O H := by
  funext b
  unfold hide
  by_cases hb : b ∈ O
  · rw [if_pos hb, if_pos hb]
  · rw [if_neg hb, if_neg hb, upd_ne (fun e => hb (by rw [e]; exact m))]
/-- a new hidden object -/
theorem St0.more (st : St0 K Tb H0 O0 O H σ ρ) (n : H D = none) (pl : Plain o) : St0 K Tb H0 O0 (D :: O) (upd H D o) σ ρ := by
  have n0 : H0 D = none := by
    cases q : H0 D with
    | none => rfl
    | some x => exact absurd n (st.ext.al D (by rw [q]; simp))
  have sub : Sub (hide O H) (hide (D :: O) (upd H D o)) := fun b x h t => by
    obtain ⟨h1, h2⟩ := hide_some h
    have hb : b ≠ D := ne_of_none h2 n
    rw [hide_out (by rw [List.mem_cons, not_or]; exact ⟨hb, h1⟩), upd_ne hb]
    exact h2
  refine ⟨st.ext.updN n0 (fun _ _ z => by rw [n] at z; cases z), fun b h => List.mem_cons_of_mem _ (st.sub b h), fun b h h2 => ?_, fun b h => ?_, fun P m => ?_, fun b m m2 => ?_, st.len, fun i x h => ?_, st.inj⟩
  · rcases List.mem_cons.mp h with rfl | h
    · exact n0
    · exact st.new b h h2
  · rcases List.mem_cons.mp h with rfl | h
    · rw [upd_same]; simp
    · by_cases hb : b = D
      · rw [hb, upd_same]; simp
      · rw [upd_ne hb]; exact st.al b h
  · exact (st.tab P m).mono (fun ps h => by rw [upd_ne (ne_of_none h n)]; exact h) fun c q h => by rw [upd_ne (ne_of_none h n)]; exact h
  · rcases List.mem_cons.mp m with rfl | m
    · exact ⟨o, upd_same, pl⟩
    · obtain ⟨x, h, q⟩ := st.pln b m m2
      exact ⟨x, by rw [upd_ne (ne_of_none h n)]; exact h, q⟩
  · obtain ⟨v, h1, h2⟩ := st.slot i x h
    exact ⟨v, h1, h2.mv sub (fun _ p _ m _ => ⟨List.mem_cons_of_mem _ m, fun o hp _ => by rw [upd_ne (ne_of_none hp n)]; exact hp⟩) fun dd fs h => by rw [upd_ne (ne_of_none h n)]; exact h⟩
/-- the hidden object at D, which no slot owns, is changed -/
theorem St0.hid (st : St0 K Tb H0 O0 O H σ ρ) (m : D ∈ O) (m0 : D ∉ O0) {l : List V} (hD : H D = some (.lst l)) (hs : ∀ (i : Nat) (s : Sl), s.Hold → ρ[i]? = some (some s) → σ[i]? ≠ some (some (.ref D))) {l' : List V} : St0 K Tb H0 O0 O (upd H D (.lst l')) σ ρ where
  ext := st.ext.updN (st.new D m m0) (fun c q z => by rw [hD] at z; exact (plain_lst l).1 c q (Option.some.inj z))
  sub := st.sub
  new := st.new
  al := fun b h => by
    by_cases hb : b = D
    · rw [hb, upd_same]; simp
    · rw [upd_ne hb]; exact st.al b h
  tab := fun P mp => by
    have hb : P ≠ D := tabG_ne (st.tab P mp) fun ps q => by rw [hD] at q; cases q
    exact (st.tab P mp).mono (fun ps h => by rw [upd_ne hb]; exact h) fun c q h => by
      rw [upd_ne fun z => (plain_lst l).1 c q (Option.some.inj (hD.symm.trans (by rw [← z]; exact h)))]
      exact h
  pln := fun b mb nb => by
    by_cases hb : b = D
    · exact ⟨_, by rw [hb]; exact upd_same, plain_lst l'⟩
    · obtain ⟨x, h, q⟩ := st.pln b mb nb
      exact ⟨x, by rw [upd_ne hb]; exact h, q⟩
  len := st.len
  slot := fun i x h => by
    obtain ⟨v, h1, h2⟩ := st.slot i x h
    refine ⟨v, h1, h2.mv (by rw [hide_upd m]; exact fun _ _ h _ => h) (fun hx p ev mp _ => ⟨mp, fun o hp _ => ?_⟩) fun dd fs h => ?_⟩
    · have hne : p ≠ D := fun e => hs i x hx h (by rw [h1, ev, e])
      rw [upd_ne hne]; exact hp
    · rw [upd_ne (fun e => by rw [e, hD] at h; cases h)]; exact h
  inj := st.inj
theorem Ext.unhide : Ext (hide O H) H where
  keep := Sub.unhide
  tab := fun b t => t.mono (fun ps h => (hide_some h).2) fun c q h => (hide_some h).2
  al := fun b h => by
    cases q : hide O H b with
    | none => exact absurd q h
    | some x => rw [(hide_some q).2]; simp
theorem hide_in {b : Addr} (h : b ∈ O) : hide O H b = none := by unfold hide; rw [if_pos h]
theorem hide_none {b : Addr} (h : H b = none) : hide O H b = none := by unfold hide; split <;> first | rfl | exact h
end
section
variable {X : Cx} {Tb : List Addr} {W : WX}
theorem ft_yes : PTs X [] (tDT X.K Tb W dYes) := ⟨fun pins s σ H Q I ⟨_, _, _, _, _, h⟩ => pts_nil.run pins s σ H Q I (h true H (Ext.refl _) rfl)⟩
theorem ft_one {c : Expr} {f : DnB} (h : PT X c (tDT X.K Tb W f)) : PTs X [c] (tDT X.K Tb W f) := pts_one h
/-- the turns of a comprehension's block -/
theorem lc_turns {K : PySem.W.Frag} {t : Tg} {ft : DnB} {fe : Dn} {vs : List Nat} {σ : L2.St} {ρ : Rho} {H0 H1 : Hp} {O0 O : List Addr} {J : It} {ds ys : List PyData} {Q : VK} (hv : ∀ i ∈ t.ixs, i ∈ vs)
    (st1 : St0 K Tb H0 O0 O H1 σ ρ) (it : ItD K (hide O H1) J ds) (hys : lcGo t ft fe (wipeR ρ vs) ds = .ok ys)
    (fin : ∀ D acc H', Ext H1 H' → H1 D = none → H' D = some (.lst acc) → ys.length ≤ sizeLine → RpAll K (hide (D :: O) H') acc ys → Q (.ref D) H') :
    ∀ D, H1 D = none → ∃ W : Nat → Nat → Hp → Prop, (∃ m, W 0 m (upd H1 D (.lst []))) ∧ ∀ i m H, W i m H →
      (J.stop i H ∧ Q (.ref D) H) ∨ (J.go i H ∧ ∃ Nx : Hp → Prop, (∀ H', Nx H' → ∃ m', m' < m ∧ W (i + 1) m' H') ∧ ∀ x H', J.yld i H x H' → tG K Tb t x (L2.wipe σ vs) H' fun σ2 H2 => L2.wipe σ2 vs = L2.wipe σ vs ∧ tDT K Tb W0 ft σ2 H2 fun b H3 =>
        if b = true then tD K Tb W0 fe σ2 H3 fun y H4 => ∃ acc, H4 D = some (.lst acc) ∧ acc.length < sizeLine ∧ Nx (upd H4 D (.lst (acc ++ [y]))) else Nx H3) := by
  intro D nD
  have aD : D ∉ O := st1.fresh nD
  have stw := (st1.wiped vs).more (o := .lst []) nD (plain_lst [])
  have aD0 : D ∉ O0 := fun m => aD (st1.sub D m)
  have own : ∀ (i : Nat) (s : Sl), s.Hold → (wipeR ρ vs)[i]? = some (some s) → (L2.wipe σ vs)[i]? ≠ some (some (.ref D)) := fun i s hs h1 h2 => aD ((st1.wiped vs).hold hs h1 h2).1
  have nO : ∀ b ∈ D :: O, hide O H1 b = none := fun b hb => by
    rcases List.mem_cons.mp hb with rfl | hb
    · exact hide_none nD
    · exact hide_in hb
  refine ⟨fun i m H' => i ≤ ds.length ∧ m = ds.length - i ∧ ∃ acc accD rest, St0 K Tb H0 O0 (D :: O) H' (L2.wipe σ vs) (wipeR ρ vs) ∧ Ext H1 H' ∧ H' D = some (.lst acc) ∧ RpAll K (hide (D :: O) H') acc accD ∧ acc.length ≤ i ∧ lcGo t ft fe (wipeR ρ vs) (ds.drop i) = .ok rest ∧ accD ++ rest = ys,
    ⟨ds.length, Nat.zero_le _, by simp, [], [], ys, stw, Ext.new nD, upd_same, .nil, Nat.le_refl _, hys, rfl⟩, ?_⟩
  rintro i m H' ⟨hi, rfl, acc, accD, rest, s1, e1, hD, ra, la, go, ey⟩
  have eG : Ext (hide O H1) H' := Ext.unhide.trans e1
  by_cases hlt : i < ds.length
  · refine .inr ⟨it.go i H' eG hlt, fun H2 => i + 1 ≤ ds.length ∧ ∃ acc accD rest, St0 K Tb H0 O0 (D :: O) H2 (L2.wipe σ vs) (wipeR ρ vs) ∧ Ext H1 H2 ∧ H2 D = some (.lst acc) ∧ RpAll K (hide (D :: O) H2) acc accD ∧ acc.length ≤ i + 1 ∧ lcGo t ft fe (wipeR ρ vs) (ds.drop (i + 1)) = .ok rest ∧ accD ++ rest = ys,
      fun H2 q => ⟨ds.length - (i + 1), by omega, q.1, rfl, q.2⟩, fun x H2 y => ?_⟩
    obtain ⟨e2, d, hd, rx⟩ := it.yld i H' (D :: O) x H2 eG nO s1.al hlt y
    have hdr : ds.drop i = d :: ds.drop (i + 1) := by
      obtain ⟨hl, hd'⟩ := List.getElem?_eq_some_iff.mp hd
      rw [List.drop_eq_getElem_cons hl, hd']
    rw [hdr] at go
    unfold lcGo at go
    cases et : t.set d (wipeR ρ vs) with
    | none => rw [et] at go; cases go
    | some ρ1 =>
      rw [et] at go
      obtain ⟨b, eb, go⟩ := nx_ok go
      have s2 := s1.step e2
      refine ⟨H0, O0, D :: O, wipeR ρ vs, ρ1, d, s2, rx, et, fun σ' st' ag => ⟨(ag.wipe hv).trans wipe_wipe, H0, O0, D :: O, ρ1, st', ?_⟩⟩
      rw [eb]
      intro b' H3 e3 r3
      cases (show b' = b from r3)
      have s3 := st'.step e3
      cases b with
      | false =>
        refine ⟨hlt, acc, accD, rest, s2.step e3, (e1.trans e2).trans e3, (e2.trans e3).keep D _ hD (fun _ q => by cases q), ra.mono (Sub.hide (e2.trans e3).keep), Nat.le_succ_of_le la, go, ey⟩
      | true =>
        obtain ⟨yd, ey1, go⟩ := nx_ok go
        obtain ⟨rs, er, go⟩ := nx_ok go
        cases go
        refine ⟨H0, O0, D :: O, ρ1, s3, ?_⟩
        rw [ey1]
        intro y H4 e4 r4
        have hD4 := ((e2.trans e3).trans e4).keep D _ hD (fun _ q => by cases q)
        have s4 := (s2.step e3).step e4
        have zl : acc.length < sizeLine := by have := it.len; omega
        refine ⟨acc, hD4, zl, hlt, acc ++ [y], accD ++ [yd], rs, s4.hid List.mem_cons_self aD0 hD4 own, (((e1.trans e2).trans e3).trans e4).updN nD (fun c q z => (plain_lst acc).1 c q (Option.some.inj (hD4.symm.trans z))), upd_same, ?_, ?_, er, ?_⟩
        · rw [hide_upd List.mem_cons_self]
          exact (ra.mono (Sub.hide ((e2.trans e3).trans e4).keep)).append (.one r4)
        · rw [List.length_append]; simp; exact la
        · rw [List.append_assoc]; exact ey
  · have ei : i = ds.length := by omega
    subst ei
    refine .inl ⟨it.stop H' eG, ?_⟩
    rw [List.drop_length] at go
    cases go
    rw [List.append_nil] at ey
    subst ey
    refine fin D acc H' e1 nD hD ?_ ra
    have := it.len
    have := ra.length
    omega
/-- the walk of a comprehension's block -/
theorem lc_walk {K : PySem.W.Frag} {t : Tg} {ft : DnB} {fe : Dn} {fi : DnL} {vs : List Nat} {σ : L2.St} {H : Hp} {Q : VK} (hv : ∀ i ∈ t.ixs, i ∈ vs) (h : tD K Tb W (dLc fi t ft fe vs) σ H Q) :
    tLc (tI K Tb W fi) (tG K Tb t) (tDT K Tb W0 ft) (tD K Tb W0 fe) vs σ H Q := by
  obtain ⟨H0, O0, O, ρ, st, h⟩ := h
  refine ⟨H0, O0, O, ρ, st, Post.then h fun ds J H1 e it k => ?_⟩
  cases q : lcGo t ft fe (wipeR ρ vs) ds with
  | exc x => rw [q] at k; exact k.elim
  | bad => rw [q] at k; exact k.elim
  | ok ys =>
    rw [q] at k
    refine lc_turns hv (st.step e) it q fun D acc H' e1 nD hD z ra => ?_
    have aD : D ∉ O := (st.step e).fresh nD
    exact k _ H' e1 (.lst (.of (by rw [hide_out aD]; exact hD)) z (ra.mono (Sub.less fun b hb => List.mem_cons_of_mem _ hb)))
/-- [e for t in i if c] -/
theorem fd_lc {elt tg iter : Expr} {ifs : List Expr} {scope : Scope} {own : List (Str × Nat)} {pos : Pos} {fi : DnL} {t : Tg} {ft : DnB} {fe : Dn} (hc : X.calm = true) (hN : X.N.Nodup) (hi : PI X tg iter (tI X.K Tb W fi)) (ok : BlkOk X.N X.env.scope scope own)
    (hg : ∀ (s : Shared) (H : Hp) (C : Addr) (cl : List (Str × Addr)) (fp : List Addr), PG (X.blk s H scope (compEnvC scope cl C X.env) fp) tg (tG X.K Tb t))
    (ht : ∀ (s : Shared) (H : Hp) (C : Addr) (cl : List (Str × Addr)) (fp : List Addr), PTs (X.blk s H scope (compEnvC scope cl C X.env) fp) ifs (tDT X.K Tb W0 ft))
    (he : ∀ (s : Shared) (H : Hp) (C : Addr) (cl : List (Str × Addr)) (fp : List Addr), PE (X.blk s H scope (compEnvC scope cl C X.env) fp) elt (tD X.K Tb W0 fe))
    (hv : ∀ i ∈ t.ixs, i ∈ own.map (·.2) := by decide) (hs : ∀ x, foldedSetIterable iter X.env x = pure x := by intro _; rfl) : PE X (.ListComp elt [⟨tg, iter, ifs, 0⟩] scope pos) (tD X.K Tb W (dLc fi t ft fe (own.map (·.2)))) :=
  (pe_lc hc hN hi ok hg ht he hs).by fun σ H Q h => lc_walk hv h
end
end PD
set_option Elab.async false
set_option linter.all false
set_option maxRecDepth 100000
set_option maxHeartbeats 1000000
namespace PD
open PySem PySem.Spec PyProof.Rows L2
inductive Out where
  | nx (ρ : Rho)
  | rt (d : PyData)
  | bk (ρ : Rho)
  | ct (ρ : Rho)
  | exc (e : Ex) (ρ : Rho)
  | bad
abbrev Sn := Rho → Out
def PostS (K : PySem.W.Frag) (Tb : List Addr) (W : WX) (H0 : Hp) (O0 : List Addr) (out : Out) (D : Ends) : Prop := match out with
  | .nx ρ => ∀ O σ H, St0 K Tb H0 O0 O H σ ρ → D.nx σ H
  | .rt d => ∀ v H, Ext H0 H → Rp K (hide O0 H) v d → D.rt v H
  | .bk ρ => ∀ O σ H, St0 K Tb H0 O0 O H σ ρ → D.bk σ H
  | .ct ρ => ∀ O σ H, St0 K Tb H0 O0 O H σ ρ → D.ct σ H
  | .exc e ρ => ∀ O σ H c d, St0 K Tb H0 O0 O H σ ρ → ExR K (hide O H) H c d e → W c d σ H
  | .bad => False
def tS (K : PySem.W.Frag) (Tb : List Addr) (W : WX) (g : Sn) : TS := fun D σ H => ∃ H0 O0 O ρ, St0 K Tb H0 O0 O H σ ρ ∧ PostS K Tb W H0 O0 (g ρ) D
/-- a result, then a statement's end -/
def oR {α : Type} (x : R α) (ρ : Rho) (k : α → Out) : Out := match x with
  | .ok a => k a
  | .exc e => .exc e ρ
  | .bad => .bad
def oO (x : Option Rho) : Out := match x with
  | some ρ => .nx ρ
  | none => .bad
def gSkip : Sn := .nx
def gSeq (g h : Sn) : Sn := fun ρ => match g ρ with
  | .nx ρ' => h ρ'
  | o => o
def gSet (f : Dn) (t : Tg) : Sn := fun ρ => oR (f ρ) ρ fun d => oO (t.set d ρ)
def gExpr (f : Dn) : Sn := fun ρ => oR (f ρ) ρ fun _ => .nx ρ
def gRet (f : Dn) : Sn := fun ρ => oR (f ρ) ρ .rt
def gIf (c : DnB) (g h : Sn) : Sn := fun ρ => oR (c ρ) ρ fun b => if b = true then g ρ else h ρ
def forGo (t : Tg) (g : Sn) : List PyData → Rho → Out
  | [], ρ => .nx ρ
  | d :: ds, ρ => match t.set d ρ with
    | some ρ1 => match g ρ1 with
      | .nx ρ2 => forGo t g ds ρ2
      | .ct ρ2 => forGo t g ds ρ2
      | .bk ρ2 => .nx ρ2
      | o => o
    | none => .bad
def gFor (fi : DnL) (t : Tg) (g : Sn) : Sn := fun ρ => oR (fi ρ) ρ fun ds => forGo t g ds ρ
def whGo (c : DnB) (g : Sn) : Nat → Rho → Out
  | 0, _ => .bad
  | n + 1, ρ => oR (c ρ) ρ fun b => if b = true then (match g ρ with
      | .nx ρ2 => whGo c g n ρ2
      | .ct ρ2 => whGo c g n ρ2
      | .bk ρ2 => .nx ρ2
      | o => o) else .nx ρ
def gWhile (c : DnB) (g : Sn) (fuel : Rho → Nat) : Sn := fun ρ => whGo c g (fuel ρ) ρ
/-- the list that slot i owns becomes a plain datum -/
def frz (i : Nat) (ρ : Rho) : Option Rho := match ρ[i]? with
  | some (some (.own ds)) => some (ρ.set i (some (.d (.list ds))))
  | _ => none
def frzD (i : Nat) (ρ : Rho) : Option Rho := match ρ[i]? with
  | some (some (.dct ks)) => some (ρ.set i (some (.d (.dict (ks.map fun k => (.tuple (k.map .int), .bool true))))))
  | _ => none
def gFrzD (i : Nat) (g : Sn) : Sn := fun ρ => match frzD i ρ with
  | some ρ' => g ρ'
  | none => .bad
def gFrz (i : Nat) (g : Sn) : Sn := fun ρ => match frz i ρ with
  | some ρ' => g ρ'
  | none => .bad
/-- slot i owns a new list -/
def gOwn (f : Dn) (i : Nat) : Sn := fun ρ => oR (f ρ) ρ fun d => match d with
  | .list ds => .nx (ρ.set i (some (.own ds)))
  | _ => .bad
def ownAt (ρ : Rho) (i : Nat) (k : List PyData → Out) : Out := match ρ[i]? with
  | some (some (.own ds)) => k ds
  | _ => .bad
def gApp (i : Nat) (f : Dn) : Sn := fun ρ => ownAt ρ i fun ds => oR (f ρ) ρ fun d => if ds.length < sizeLine then .nx (ρ.set i (some (.own (ds ++ [d])))) else .bad
def thaw (ρ : Rho) : Rho := ρ.map fun s => match s with
  | some (.own ds) => some (.d (.list ds))
  | some (.dct ks) => some (.d (.dict (ks.map fun k => (.tuple (k.map .int), .bool true))))
  | some (.dk _) => none
  | s => s
def dThawB (f : DnB) : DnB := fun ρ => nx (f (thaw ρ)) .ok
def flat : PyData → Bool
  | .none => true
  | .bool _ => true
  | .int _ => true
  | .str _ => true
  | _ => false
def dThaw (f : Dn) : Dn := fun ρ => nx (f (thaw ρ)) fun d => if flat d = true then .ok d else .bad
section
variable {K : PySem.W.Frag} {Tb : List Addr} {W : WX} {H0 H0' H H' : Hp} {O0 O : List Addr} {ρ : Rho} {σ : L2.St} {p : Addr} {D : Ends}
theorem St0.init {vs : List V} {ds : List PyData} (n : Nat) (al : Al O H) (tb : ∀ P ∈ Tb, TabC H P) (r : RpAll K (hide O H) vs ds) : St0 K Tb H O O H (vs.map some ++ List.replicate n none) (ds.map (fun d => some (.d d)) ++ List.replicate n none) where
  ext := Ext.refl H
  sub := fun _ h => h
  new := fun b h h2 => absurd h h2
  al := al
  tab := tb
  pln := fun b m n => absurd m n
  len := by simp [r.length]
  slot := fun i s h => by
    have hi : i < ds.length := by
      by_cases hi : i < ds.length
      · exact hi
      · rw [List.getElem?_append_right (by simpa using hi), List.getElem?_replicate] at h
        split at h <;> cases h
    rw [List.getElem?_append_left (by simpa using hi), List.getElem?_map] at h
    cases e : ds[i]? with
    | none => rw [e] at h; cases h
    | some d =>
      rw [e] at h
      cases h
      obtain ⟨v, h1, h2⟩ := r.get' e
      refine ⟨v, ?_, h2⟩
      have hl : i < vs.length := by rw [r.length]; exact hi
      rw [List.getElem?_append_left (by simpa using hl), List.getElem?_map, h1]
      rfl
  inj := fun i j p xs ys hx _ h1 _ _ _ => by
    have hi : i < ds.length := by
      by_cases hi : i < ds.length
      · exact hi
      · rw [List.getElem?_append_right (by simpa using hi), List.getElem?_replicate] at h1
        split at h1 <;> cases h1
    rw [List.getElem?_append_left (by simpa using hi), List.getElem?_map] at h1
    cases e : ds[i]? with
    | none => rw [e] at h1; cases h1
    | some d => rw [e] at h1; cases h1; exact hx.elim
def rebase (O0 O : List Addr) (H : Hp) : Hp := hide (O.filter fun b => decide (b ∉ O0)) H
theorem mem_rebase {b : Addr} : b ∈ (O.filter fun b => decide (b ∉ O0)) ↔ b ∈ O ∧ b ∉ O0 := by
  rw [List.mem_filter, decide_eq_true_eq]
theorem St0.rebase (st : St0 K Tb H0 O0 O H σ ρ) : St0 K Tb (rebase O0 O H) O0 O H σ ρ :=
  ⟨Ext.unhide, st.sub, fun b h h2 => hide_in (mem_rebase.mpr ⟨h, h2⟩), st.al, st.tab, st.pln, st.len, st.slot, st.inj⟩
theorem St0.baseExt (st : St0 K Tb H0 O0 O H σ ρ) : Ext H0 (PD.rebase O0 O H) := by
  have out : ∀ b, H0 b ≠ none → PD.rebase O0 O H b = H b := fun b h => hide_out fun m => by
    obtain ⟨h1, h2⟩ := mem_rebase.mp m
    exact h (st.new b h1 h2)
  refine ⟨fun b o h t => ?_, fun b t => ?_, fun b h => ?_⟩
  · rw [out b (by rw [h]; simp)]
    exact st.ext.keep b o h t
  · refine (st.ext.tab b t).mono (fun ps h => ?_) fun c q h => ?_
    · obtain ⟨ps0, h0, _⟩ := t
      rw [out b (by rw [h0]; simp)]
      exact h
    · refine (hide_out fun m => ?_).trans h
      obtain ⟨m1, m2⟩ := mem_rebase.mp m
      obtain ⟨x, g1, g2⟩ := st.pln c m1 m2
      rw [h] at g1
      exact g2.1 c q (Option.some.inj g1).symm
  · rw [out b h]
    exact st.ext.al b h
theorem St0.unbase {O' : List Addr} {σ' : L2.St} {ρ' : Rho} (e : Ext H0 H0') (st : St0 K Tb H0' O0 O' H' σ' ρ') : St0 K Tb H0 O0 O' H' σ' ρ' :=
  ⟨e.trans st.ext, st.sub, fun b h h2 => by
    cases q : H0 b with
    | none => rfl
    | some x => exact absurd (st.new b h h2) (e.al b (by rw [q]; simp)), st.al, st.tab, st.pln, st.len, st.slot, st.inj⟩
theorem PostS.rebase {out : Out} (e : Ext H0 H0') (h : PostS K Tb W H0 O0 out D) : PostS K Tb W H0' O0 out D := by
  cases out with
  | nx ρ => exact fun O σ H st => h O σ H (st.unbase e)
  | bk ρ => exact fun O σ H st => h O σ H (st.unbase e)
  | ct ρ => exact fun O σ H st => h O σ H (st.unbase e)
  | rt d => exact fun v H e' r => h v H (e.trans e') r
  | exc x ρ => exact fun O σ H c d st => h O σ H c d (st.unbase e)
  | bad => exact h
theorem oR_post {α β : Type} {Rl : Hp → β → α → Prop} {x : R α} {k : α → Out} {Q : β → Hp → Prop} (st : St0 K Tb H0 O0 O H σ ρ) (h : PostS K Tb W H0 O0 (oR x ρ k) D)
    (q : ∀ a b H1, Ext H H1 → Rl H1 b a → PostS K Tb W H0 O0 (k a) D → Q b H1) : Post K O Rl (fun c d H => W c d σ H) H x Q := by
  cases x with
  | ok a => exact fun b H1 e r => q a b H1 e r h
  | exc e => exact fun c d H1 ex r => h O σ H1 c d (st.step ex) r
  | bad => exact h
/-- a list that slot i owns changes -/
theorem St0.ownSet {i : Nat} {ds ds' : List PyData} {vs' : List V} (st : St0 K Tb H0 O0 O H σ ρ) (hi : ρ[i]? = some (some (.own ds))) (hp : σ[i]? = some (some (.ref p))) (z : ds'.length ≤ sizeLine) (r : RpAll K (hide O H) vs' ds') :
    St0 K Tb H0 O0 O (upd H p (.lst vs')) σ (ρ.set i (some (.own ds'))) := by
  obtain ⟨v, h1, p', vs, h2, m, m0, hH, _, _⟩ := st.slot i _ hi
  rw [hp] at h1
  cases h1
  cases h2
  have il : i < ρ.length := (List.getElem?_eq_some_iff.mp hi).1
  have own : ∀ (j : Nat) (s : Sl), s.Hold → j ≠ i → ρ[j]? = some (some s) → σ[j]? ≠ some (some (.ref p)) := fun j s hs hj h1 h2 => hj (st.inj j i p s (.own ds) hs trivial h1 hi h2 hp)
  refine ⟨st.ext.updN (st.new p m m0) (fun c q z => (plain_lst vs).1 c q (Option.some.inj (hH.symm.trans z))), st.sub, st.new, fun b h => ?_, fun P mp => ?_, fun b mb nb => ?_, by rw [List.length_set]; exact st.len, fun j x h => ?_, fun j k q xs ys hx hy h1 h2 h3 h4 => ?_⟩
  · by_cases hb : b = p
    · rw [hb, upd_same]; simp
    · rw [upd_ne hb]; exact st.al b h
  · have hb : P ≠ p := tabG_ne (st.tab P mp) fun ps q => by rw [hH] at q; cases q
    exact (st.tab P mp).mono (fun ps h => by rw [upd_ne hb]; exact h) fun c q h => by
      rw [upd_ne fun z => (plain_lst vs).1 c q (Option.some.inj (hH.symm.trans (by rw [← z]; exact h)))]
      exact h
  · by_cases hb : b = p
    · exact ⟨_, by rw [hb]; exact upd_same, plain_lst vs'⟩
    · obtain ⟨x, h, q⟩ := st.pln b mb nb
      exact ⟨x, by rw [upd_ne hb]; exact h, q⟩
  · by_cases e : i = j
    · subst e
      rw [List.getElem?_set_self il] at h
      cases h
      exact ⟨_, hp, p, vs', rfl, m, m0, upd_same, z, by rw [hide_upd m]; exact r⟩
    · rw [List.getElem?_set_ne e] at h
      obtain ⟨v, h1, h2⟩ := st.slot j x h
      refine ⟨v, h1, h2.mv (by rw [hide_upd m]; exact fun _ _ h _ => h) (fun hx q ev mq _ => ⟨mq, fun o hq _ => ?_⟩) fun dd fs h => ?_⟩
      · have hne : q ≠ p := fun e2 => own j x hx (fun z => e z.symm) h (by rw [h1, ev, e2])
        rw [upd_ne hne]; exact hq
      · rw [upd_ne (fun e => by rw [e, hH] at h; cases h)]; exact h
  · have g : ∀ (j : Nat) (s : Sl), s.Hold → (ρ.set i (some (.own ds')))[j]? = some (some s) → ∃ s', s'.Hold ∧ ρ[j]? = some (some s') := fun j s hs h => by
      by_cases e : i = j
      · subst e; exact ⟨.own ds, trivial, hi⟩
      · rw [List.getElem?_set_ne e] at h; exact ⟨s, hs, h⟩
    obtain ⟨xs', x1, g1⟩ := g j xs hx h1
    obtain ⟨ys', y1, g2⟩ := g k ys hy h2
    exact st.inj j k q xs' ys' x1 y1 g1 g2 h3 h4
/-- a new list becomes slot i's own -/
theorem St0.ownNew {i : Nat} {ds : List PyData} {vs : List V} (st : St0 K Tb H0 O0 O H σ ρ) (e : Ext H H') (n : H p = none) (hp : H' p = some (.lst vs)) (z : ds.length ≤ sizeLine) (r : RpAll K (hide (p :: O) H') vs ds) :
    St0 K Tb H0 O0 (p :: O) H' (σ.set i (some (.ref p))) (ρ.set i (some (.own ds))) := by
  have nO : p ∉ O := st.fresh n
  have n0 : H0 p = none := by
    cases q : H0 p with
    | none => rfl
    | some x => exact absurd n (st.ext.al p (by rw [q]; simp))
  have sub : Sub (hide O H) (hide (p :: O) H') := fun b o h t => by
    obtain ⟨h1, h2⟩ := hide_some h
    have hb : b ≠ p := ne_of_none h2 n
    rw [hide_out (by rw [List.mem_cons, not_or]; exact ⟨hb, h1⟩)]
    exact e.keep b o h2 t
  have nown : ∀ (j : Nat) (s : Sl), s.Hold → ρ[j]? = some (some s) → σ[j]? ≠ some (some (.ref p)) := fun j s hs h h2 => nO (st.hold hs h h2).1
  refine ⟨st.ext.trans e, fun b h => List.mem_cons_of_mem _ (st.sub b h), fun b h h2 => ?_, fun b h => ?_, fun P m => e.tab P (st.tab P m), fun b mb nb => ?_, by rw [List.length_set, List.length_set]; exact st.len, fun j s h => ?_, fun j k q xs ys hx hy h1 h2 h3 h4 => ?_⟩
  · rcases List.mem_cons.mp h with rfl | h
    · exact n0
    · exact st.new b h h2
  · rcases List.mem_cons.mp h with rfl | h
    · rw [hp]; simp
    · exact e.al b (st.al b h)
  · rcases List.mem_cons.mp mb with rfl | mb
    · exact ⟨_, hp, plain_lst vs⟩
    · obtain ⟨x, h, q⟩ := st.pln b mb nb
      exact ⟨x, e.keep b x h q.2, q⟩
  · by_cases ej : i = j
    · subst ej
      have il : i < ρ.length := by
        have := (List.getElem?_eq_some_iff.mp h).1
        rw [List.length_set] at this
        exact this
      rw [List.getElem?_set_self il] at h
      cases h
      exact ⟨_, by rw [List.getElem?_set_self (by rw [st.len]; exact il)], p, vs, rfl, List.mem_cons_self, fun m => nO (st.sub p m), hp, z, r⟩
    · rw [List.getElem?_set_ne ej] at h ⊢
      obtain ⟨v, h1, h2⟩ := st.slot j s h
      exact ⟨v, h1, h2.mv sub (fun _ q _ mq _ => ⟨List.mem_cons_of_mem _ mq, fun o hq n => e.keep q o hq n⟩) fun dd fs h => e.keep dd _ h fun _ z => by cases z⟩
  · have lt : ∀ (j : Nat) (s : Sl), i = j → (ρ.set i (some (.own ds)))[j]? = some (some s) → j < σ.length := fun j xs ej h => by
      have := (List.getElem?_eq_some_iff.mp h).1
      rw [List.length_set] at this
      rw [st.len]; exact this
    by_cases ej : i = j
    · by_cases ek : i = k
      · rw [← ej, ← ek]
      · subst ej
        rw [List.getElem?_set_self (lt _ _ rfl h1)] at h3
        cases h3
        rw [List.getElem?_set_ne ek] at h2 h4
        exact absurd h4 (nown k ys hy h2)
    · by_cases ek : i = k
      · subst ek
        rw [List.getElem?_set_self (lt _ _ rfl h2)] at h4
        cases h4
        rw [List.getElem?_set_ne ej] at h1 h3
        exact absurd h3 (nown j xs hx h1)
      · rw [List.getElem?_set_ne ej] at h1 h3
        rw [List.getElem?_set_ne ek] at h2 h4
        exact st.inj j k q xs ys hx hy h1 h2 h3 h4
/-- slot i's own list becomes a datum -/
theorem St0.frz {i : Nat} {ρ' : Rho} (st : St0 K Tb H0 O0 O H σ ρ) (h : PD.frz i ρ = some ρ') : ∃ O', St0 K Tb H0 O0 O' H σ ρ' := by
  unfold PD.frz at h
  split at h
  · rename_i ds hi
    cases h
    obtain ⟨v, h1, p, vs, rfl, m, m0, hp, z, r⟩ := st.slot i _ hi
    have il : i < ρ.length := (List.getElem?_eq_some_iff.mp hi).1
    have mem : ∀ b, b ∈ O.filter (fun b => decide (b ≠ p)) ↔ b ∈ O ∧ b ≠ p := fun b => by rw [List.mem_filter, decide_eq_true_eq]
    have sub : Sub (hide O H) (hide (O.filter fun b => decide (b ≠ p)) H) := Sub.less fun b hb => ((mem b).mp hb).1
    refine ⟨O.filter fun b => decide (b ≠ p), st.ext, fun b hb => (mem b).mpr ⟨st.sub b hb, fun e => m0 (by rw [← e]; exact hb)⟩, fun b hb => st.new b ((mem b).mp hb).1, fun b hb => st.al b ((mem b).mp hb).1, st.tab, fun b hb => st.pln b ((mem b).mp hb).1, by rw [List.length_set]; exact st.len, fun j s hs => ?_, fun j k q xs ys hx hy h2 h3 h4 h5 => ?_⟩
    · by_cases ej : i = j
      · subst ej
        rw [List.getElem?_set_self il] at hs
        cases hs
        refine ⟨_, h1, .lst (.of ?_) z (r.mono sub)⟩
        rw [hide_out (fun hb => ((mem p).mp hb).2 rfl)]
        exact hp
      · rw [List.getElem?_set_ne ej] at hs
        obtain ⟨v, g1, g2⟩ := st.slot j s hs
        exact ⟨v, g1, g2.mv sub (fun hx q ev mq _ => ⟨(mem q).mpr ⟨mq, fun e => ej (st.inj i j p (.own ds) s trivial hx hi hs h1 (by rw [g1, ev, e]))⟩, fun o hq _ => hq⟩) fun _ _ h => h⟩
    · by_cases ej : i = j
      · subst ej
        rw [List.getElem?_set_self il] at h2
        cases h2
        exact hx.elim
      · by_cases ek : i = k
        · subst ek
          rw [List.getElem?_set_self il] at h3
          cases h3
          exact hy.elim
        · rw [List.getElem?_set_ne ej] at h2
          rw [List.getElem?_set_ne ek] at h3
          exact st.inj j k q xs ys hx hy h2 h3 h4 h5
  · cases h
/-- slot i's own dict becomes a datum -/
theorem St0.frzD {i : Nat} {ρ' : Rho} (st : St0 K Tb H0 O0 O H σ ρ) (h : PD.frzD i ρ = some ρ') : ∃ O', St0 K Tb H0 O0 O' H σ ρ' := by
  unfold PD.frzD at h
  split at h
  · rename_i ks hi
    cases h
    obtain ⟨v, h1, p, ep, xs, rfl, m, m0, hp, rfl, r⟩ := st.slot i _ hi
    have il : i < ρ.length := (List.getElem?_eq_some_iff.mp hi).1
    have mem : ∀ b, b ∈ O.filter (fun b => decide (b ≠ p)) ↔ b ∈ O ∧ b ≠ p := fun b => by rw [List.mem_filter, decide_eq_true_eq]
    have sub : Sub (hide O H) (hide (O.filter fun b => decide (b ≠ p)) H) := Sub.less fun b hb => ((mem b).mp hb).1
    refine ⟨O.filter fun b => decide (b ≠ p), st.ext, fun b hb => (mem b).mpr ⟨st.sub b hb, fun e => m0 (by rw [← e]; exact hb)⟩, fun b hb => st.new b ((mem b).mp hb).1, fun b hb => st.al b ((mem b).mp hb).1, st.tab, fun b hb => st.pln b ((mem b).mp hb).1, by rw [List.length_set]; exact st.len, fun j s hs => ?_, fun j k q xs ys hx hy h2 h3 h4 h5 => ?_⟩
    · by_cases ej : i = j
      · subst ej
        rw [List.getElem?_set_self il] at hs
        cases hs
        refine ⟨_, h1, ?_⟩
        rw [List.map_map]
        refine .dct (ep := ep) ?_ fun x hx => sub.sqT (r x hx)
        rw [hide_out (fun hb => ((mem p).mp hb).2 rfl)]
        exact hp
      · rw [List.getElem?_set_ne ej] at hs
        obtain ⟨v, g1, g2⟩ := st.slot j s hs
        exact ⟨v, g1, g2.mv sub (fun hx q ev mq _ => ⟨(mem q).mpr ⟨mq, fun e => ej (st.inj i j p (.dct _) s trivial hx hi hs h1 (by rw [g1, ev, e]))⟩, fun o hq _ => hq⟩) fun _ _ h => h⟩
    · by_cases ej : i = j
      · subst ej
        rw [List.getElem?_set_self il] at h2
        cases h2
        exact hx.elim
      · by_cases ek : i = k
        · subst ek
          rw [List.getElem?_set_self il] at h3
          cases h3
          exact hy.elim
        · rw [List.getElem?_set_ne ej] at h2
          rw [List.getElem?_set_ne ek] at h3
          exact st.inj j k q xs ys hx hy h2 h3 h4 h5
  · cases h
/-- all own lists as data, for a moment -/
theorem St0.thaw (st : St0 K Tb H0 O0 O H σ ρ) : St0 K Tb H0 O0 O0 H σ (PD.thaw ρ) := by
  have sub : Sub (hide O H) (hide O0 H) := Sub.less st.sub
  have get : ∀ (i : Nat) (s : Sl), (PD.thaw ρ)[i]? = some (some s) → (∃ x, s = .d x ∧ ρ[i]? = some (some (.d x))) ∨ (∃ xs, s = .d (.list xs) ∧ ρ[i]? = some (some (.own xs))) ∨ (∃ ks, s = .d (.dict (ks.map fun k => (.tuple (k.map .int), .bool true))) ∧ ρ[i]? = some (some (.dct ks))) ∨ ∃ a c dd e, s = .exn a c dd e ∧ ρ[i]? = some (some (.exn a c dd e)) := fun i s h => by
    unfold PD.thaw at h
    rw [List.getElem?_map] at h
    cases e : ρ[i]? with
    | none => rw [e] at h; cases h
    | some o =>
      rw [e] at h
      cases o with
      | none => cases h
      | some s' =>
        cases s' with
        | d x => cases h; exact .inl ⟨x, rfl, rfl⟩
        | own xs => cases h; exact .inr (.inl ⟨xs, rfl, rfl⟩)
        | dct ks => cases h; exact .inr (.inr (.inl ⟨ks, rfl, rfl⟩))
        | dk ks => cases h
        | exn a c dd e => cases h; exact .inr (.inr (.inr ⟨_, _, _, _, rfl, rfl⟩))
  refine ⟨st.ext, fun _ h => h, fun b h h2 => absurd h h2, fun b h => st.al b (st.sub b h), st.tab, fun b h h2 => absurd h h2, by unfold PD.thaw; rw [List.length_map]; exact st.len, fun i s h => ?_, fun i j p xs ys hx _ h1 _ _ _ => ?_⟩
  · rcases get i s h with ⟨x, rfl, e⟩ | ⟨xs, rfl, e⟩ | ⟨ks, rfl, e⟩ | ⟨a, c, dd, x, rfl, e⟩
    · obtain ⟨v, h1, h2⟩ := st.slot i _ e
      exact ⟨v, h1, Rp.mono sub h2⟩
    · obtain ⟨v, h1, p, vs, rfl, m, m0, hp, z, r⟩ := st.slot i _ e
      exact ⟨_, h1, .lst (.of (by rw [hide_out m0]; exact hp)) z (r.mono sub)⟩
    · obtain ⟨v, h1, p, ep, xs, rfl, m, m0, hp, rfl, r⟩ := st.slot i _ e
      refine ⟨_, h1, ?_⟩
      rw [List.map_map]
      exact .dct (by rw [hide_out m0]; exact hp) fun x hx => sub.sqT (r x hx)
    · obtain ⟨v, h1, h2⟩ := st.slot i _ e
      exact ⟨v, h1, h2.mv sub (fun hx _ _ _ _ => hx.elim) fun _ _ h => h⟩
  · rcases get i _ h1 with ⟨x, rfl, _⟩ | ⟨xs', rfl, _⟩ | ⟨ks, rfl, _⟩ | ⟨a, c, dd, x, rfl, _⟩ <;> exact hx.elim
end
section
variable {X : Cx} {Tb : List Addr} {W : WX} {e c : Expr} {f : Dn} {fb : DnB} {g h : Sn} {pos : Pos} {st : Stmt} {sts : List Stmt}
theorem ft_thaw (hc : PT X c (tDT X.K Tb W fb)) : PT X c (tDT X.K Tb W (dThawB fb)) := hc.by fun σ H Q ⟨H0, O0, O, ρ, st, h⟩ => ⟨H0, O0, O0, thaw ρ, st.thaw, by
  unfold dThawB at h
  cases q : fb (thaw ρ) with
  | ok b => rw [q] at h; exact h
  | exc x => rw [q] at h; exact h.elim
  | bad => rw [q] at h; exact h.elim⟩
theorem fs_nil : PSs X [] (tS X.K Tb W gSkip) := pss_nil.by fun D σ H ⟨H0, O0, O, ρ, st, h⟩ => h O σ H st
theorem fs_cons (h1 : PS X st (tS X.K Tb W g)) (h2 : PSs X sts (tS X.K Tb W h)) : PSs X (st :: sts) (tS X.K Tb W (gSeq g h)) := (pss_cons h1 h2).by fun D σ H ⟨H0, O0, O, ρ, st, q⟩ => ⟨H0, O0, O, ρ, st, by
  unfold gSeq at q
  cases e : g ρ with
  | nx ρ' => rw [e] at q; exact fun O' σ' H' st' => ⟨H0, O0, O', ρ', st', q⟩
  | rt d => rw [e] at q; exact q
  | bk ρ' => rw [e] at q; exact q
  | ct ρ' => rw [e] at q; exact q
  | exc x ρ' => rw [e] at q; exact q
  | bad => rw [e] at q; exact q⟩
theorem fs_one (h1 : PS X st (tS X.K Tb W g)) : PSs X [st] (tS X.K Tb W g) := pss_one h1
theorem fs_frz (i : Nat) (h1 : PSs X sts (tS X.K Tb W g)) : PSs X sts (tS X.K Tb W (gFrz i g)) := h1.by fun D σ H ⟨H0, O0, O, ρ, st, q⟩ => by
  unfold gFrz at q
  cases e : frz i ρ with
  | none => rw [e] at q; exact q.elim
  | some ρ' =>
    rw [e] at q
    obtain ⟨O', st'⟩ := st.frz e
    exact ⟨H0, O0, O', ρ', st', q⟩
theorem fs_frzD (i : Nat) (h1 : PSs X sts (tS X.K Tb W g)) : PSs X sts (tS X.K Tb W (gFrzD i g)) := h1.by fun D σ H ⟨H0, O0, O, ρ, st, q⟩ => by
  unfold gFrzD at q
  cases e : frzD i ρ with
  | none => rw [e] at q; exact q.elim
  | some ρ' =>
    rw [e] at q
    obtain ⟨O', st'⟩ := st.frzD e
    exact ⟨H0, O0, O', ρ', st', q⟩
theorem fs_ret (he : PE X e (tD X.K Tb W f)) : PS X (.Return (some e) pos) (tS X.K Tb W (gRet f)) := (ps_ret he).by fun D σ H ⟨H0, O0, O, ρ, st, h⟩ => ⟨H0, O0, O, ρ, st, oR_post st h fun d v H1 e r k => k v H1 (st.ext.trans e) (r.mono (Sub.less st.sub))⟩
theorem fs_if {a b : List Stmt} (hc : PT X c (tDT X.K Tb W fb)) (ha : PSs X a (tS X.K Tb W g)) (hb : PSs X b (tS X.K Tb W h)) : PS X (.If c a b pos) (tS X.K Tb W (gIf fb g h)) := (ps_if hc ha hb).by fun D σ H ⟨H0, O0, O, ρ, st, q⟩ => ⟨H0, O0, O, ρ, st, oR_post st q fun b b' H1 e r k => by
  cases (show b' = b from r)
  cases b with
  | true => exact ⟨H0, O0, O, ρ, st.step e, k⟩
  | false => exact ⟨H0, O0, O, ρ, st.step e, k⟩⟩
/-- name = e -/
theorem fs_set {i : Nat} {x : Str} {pos' : Pos} (hN : X.N.Nodup) (hi : X.N[i]? = some x) (hx : Loc X.env.scope x) (he : PE X e (tD X.K Tb W f)) (hs : swapsWith e (some (.Name x pos')) pos.line X.env = pure false := by rfl)
    (hf : X.fn x = true ∨ X.env.scope.names.lookup x = some .local := by first | exact .inl rfl | exact .inr rfl | assumption) : PS X (.Assign [.Name x pos'] e pos) (tS X.K Tb W (gSet f (.nm i))) := (ps_set hN hi hx he hs hf).by fun D σ H ⟨H0, O0, O, ρ, st, h⟩ => ⟨H0, O0, O, ρ, st, oR_post st h fun d v H1 e r k => by
  unfold Tg.set at k
  exact k O _ H1 ((st.step e).set r)⟩
/-- name = [.. for ..] -/
theorem fs_setLc {i : Nat} {y : Str} {py : Pos} {elt tg iter : Expr} {ifs : List Expr} {scope : Scope} {own : List (Str × Nat)} {spos : Pos} {fi : DnL} {t : Tg} {ft : DnB} {fe : Dn} (hc : X.calm = true) (hN : X.N.Nodup) (hy : X.N[i]? = some y) (hyl : X.env.scope.names.lookup y = some .local)
    (hsw : swapsWith (.ListComp elt [⟨tg, iter, ifs, 0⟩] scope pos) (some (.Name y py)) spos.line X.env = pure true) (hi : PI X tg iter (tI X.K Tb W fi)) (ok : BlkOk X.N X.env.scope scope own)
    (hg : ∀ (s : Shared) (H : Hp) (C : Addr) (cl : List (Str × Addr)) (fp : List Addr), PG (X.blk s H scope (compEnvC scope cl C X.env) fp) tg (tG X.K Tb t))
    (ht : ∀ (s : Shared) (H : Hp) (C : Addr) (cl : List (Str × Addr)) (fp : List Addr), PTs (X.blk s H scope (compEnvC scope cl C X.env) fp) ifs (tDT X.K Tb W0 ft))
    (he : ∀ (s : Shared) (H : Hp) (C : Addr) (cl : List (Str × Addr)) (fp : List Addr), PE (X.blk s H scope (compEnvC scope cl C X.env) fp) elt (tD X.K Tb W0 fe))
    (hv : ∀ i ∈ t.ixs, i ∈ own.map (·.2) := by decide) (hs : ∀ x, foldedSetIterable iter X.env x = pure x := by intro _; rfl) :
    PS X (.Assign [.Name y py] (.ListComp elt [⟨tg, iter, ifs, 0⟩] scope pos) spos) (tS X.K Tb W (gSet (dLc fi t ft fe (own.map (·.2))) (.nm i))) :=
  (ps_setLc hc hN hy hyl hsw hi ok hg ht he hs).by fun D σ H ⟨H0, O0, O, ρ, st, h⟩ => lc_walk (W := W) (Q := fun x H1 => gName i x σ H1 D.nx) hv ⟨H0, O0, O, ρ, st, oR_post st h fun d v H1 e r k => by
    unfold Tg.set at k
    exact k O _ H1 ((st.step e).set r)⟩
theorem fs_for {tg iter : Expr} {body : List Stmt} {fi : DnL} {t : Tg} (hp : PassesOwn (model X.prog X.w) X.A X.env X.xe) (hc : X.calm = true) (hi : PI X tg iter (tI X.K Tb W fi)) (hg : PG X tg (tG X.K Tb t)) (hb : PSs X body (tS X.K Tb W g))
    (hs : ∀ x, foldedSetIterable iter X.env x = pure x := by intro _; rfl) : PS X (.For tg iter body [] pos) (tS X.K Tb W (gFor fi t g)) := (ps_for hp hc hi hg hb hs).by fun D σ H ⟨H0, O0, O, ρ, st, h⟩ => ⟨H0, O0, O, ρ, st, oR_post st h fun ds J H1 e it k => by
  have st1 := (st.step e)
  have eB : Ext H0 (rebase O0 O H1) := st1.baseExt
  have k1 := PostS.rebase eB k
  have eG : Ext (hide O H1) (rebase O0 O H1) := by
    have out : ∀ b o, hide O H1 b = some o → rebase O0 O H1 b = some o := fun b o h => by
      obtain ⟨h1, h2⟩ := hide_some h
      unfold rebase
      rw [hide_out fun m => h1 (mem_rebase.mp m).1]
      exact h2
    refine ⟨fun b o h _ => out b o h, fun b t => t.mono (fun ps h => out b _ h) fun c q h => out c _ h, fun b h => ?_⟩
    cases q : hide O H1 b with
    | none => exact absurd q h
    | some x => rw [out b x q]; simp
  refine ⟨fun i m σ' H' => i ≤ ds.length ∧ m = ds.length - i ∧ ∃ O' ρ', St0 X.K Tb (rebase O0 O H1) O0 O' H' σ' ρ' ∧ PostS X.K Tb W (rebase O0 O H1) O0 (forGo t g (ds.drop i) ρ') D,
    ⟨ds.length, Nat.zero_le _, by simp, O, ρ, st1.rebase, k1⟩, ?_⟩
  rintro i m σ' H' ⟨hi, rfl, O', ρ', s1, k2⟩
  have eH : Ext (hide O H1) H' := eG.trans s1.ext
  have nG : ∀ b ∈ O', hide O H1 b = none := fun b hb => by
    by_cases h0 : b ∈ O0
    · exact hide_in (st1.sub b h0)
    · have q := s1.new b hb h0
      cases z : hide O H1 b with
      | none => rfl
      | some x =>
        obtain ⟨z1, z2⟩ := hide_some z
        unfold rebase at q
        rw [hide_out fun m => z1 (mem_rebase.mp m).1, z2] at q
        cases q
  by_cases hlt : i < ds.length
  · refine .inr ⟨it.go i H' eH hlt, fun σ2 H2 => i + 1 ≤ ds.length ∧ ∃ O' ρ', St0 X.K Tb (rebase O0 O H1) O0 O' H2 σ2 ρ' ∧ PostS X.K Tb W (rebase O0 O H1) O0 (forGo t g (ds.drop (i + 1)) ρ') D,
      fun σ2 H2 q => ⟨ds.length - (i + 1), by omega, q.1, rfl, q.2⟩, fun x H2 y => ?_⟩
    obtain ⟨e2, d, hd, rx⟩ := it.yld i H' O' x H2 eH nG s1.al hlt y
    have hdr : ds.drop i = d :: ds.drop (i + 1) := by
      obtain ⟨hl, hd'⟩ := List.getElem?_eq_some_iff.mp hd
      rw [List.drop_eq_getElem_cons hl, hd']
    rw [hdr] at k2
    unfold forGo at k2
    cases et : t.set d ρ' with
    | none => rw [et] at k2; exact k2.elim
    | some ρ1 =>
      rw [et] at k2
      refine ⟨_, O0, O', ρ', ρ1, d, s1.step e2, rx, et, fun σ3 s3 _ => ⟨_, O0, O', ρ1, s3, ?_⟩⟩
      cases eg : g ρ1 with
      | nx ρ2 => simp only [eg] at k2; exact fun O4 σ4 H4 s4 => ⟨hlt, O4, ρ2, s4, k2⟩
      | ct ρ2 => simp only [eg] at k2; exact fun O4 σ4 H4 s4 => ⟨hlt, O4, ρ2, s4, k2⟩
      | bk ρ2 => simp only [eg] at k2; exact k2
      | rt d => simp only [eg] at k2; exact k2
      | exc x ρ2 => simp only [eg] at k2; exact k2
      | bad => simp only [eg] at k2; exact k2
  · have ei : i = ds.length := by omega
    subst ei
    rw [List.drop_length] at k2
    exact .inl ⟨it.stop H' eH, k2 O' σ' H' s1⟩⟩
theorem fs_while {body : List Stmt} {fuel : Rho → Nat} (hp : PassesOwn (model X.prog X.w) X.A X.env X.xe) (hc : PT X c (tDT X.K Tb W fb)) (hb : PSs X body (tS X.K Tb W g)) : PS X (.While c body [] pos) (tS X.K Tb W (gWhile fb g fuel)) := (ps_while hp hc hb).by fun D σ H ⟨H0, O0, O, ρ, st, h⟩ => by
  refine ⟨fun m σ' H' => ∃ O' ρ', St0 X.K Tb H0 O0 O' H' σ' ρ' ∧ PostS X.K Tb W H0 O0 (whGo fb g m ρ') D, ⟨fuel ρ, O, ρ, st, h⟩, ?_⟩
  rintro m σ' H' ⟨O', ρ', s1, k⟩
  cases m with
  | zero => exact k.elim
  | succ m =>
    refine ⟨H0, O0, O', ρ', s1, oR_post s1 k fun b b' H1 e r k => ?_⟩
    cases (show b' = b from r)
    cases b with
    | false => exact k O' σ' H1 (s1.step e)
    | true =>
      refine ⟨fun σ2 H2 => ∃ O' ρ', St0 X.K Tb H0 O0 O' H2 σ2 ρ' ∧ PostS X.K Tb W H0 O0 (whGo fb g m ρ') D, fun σ2 H2 q => ⟨m, Nat.lt_succ_self _, q⟩, H0, O0, O', ρ', s1.step e, ?_⟩
      simp only [if_true] at k
      cases eg : g ρ' with
      | nx ρ2 => simp only [eg] at k; exact fun O4 σ4 H4 s4 => ⟨O4, ρ2, s4, k⟩
      | ct ρ2 => simp only [eg] at k; exact fun O4 σ4 H4 s4 => ⟨O4, ρ2, s4, k⟩
      | bk ρ2 => simp only [eg] at k; exact k
      | rt d => simp only [eg] at k; exact k
      | exc x ρ2 => simp only [eg] at k; exact k
      | bad => simp only [eg] at k; exact k
end
end PD
set_option Elab.async false
set_option linter.all false
set_option maxRecDepth 100000
set_option maxHeartbeats 1000000
namespace PD
open PySem PySem.Spec PyProof.Rows L2
/-- an expression whose value is a new list -/
def tN (K : PySem.W.Frag) (Tb : List Addr) (W : WX) (f : Dn) : TE := fun σ H Q => ∃ H0 O0 O ρ, St0 K Tb H0 O0 O H σ ρ ∧ match f ρ with
  | .ok (.list ds) => ∀ p vs H', Ext H H' → H p = none → H' p = some (.lst vs) → ds.length ≤ sizeLine → RpAll K (hide (p :: O) H') vs ds → Q (.ref p) H'
  | .exc e => AftX K O H e fun c d H => W c d σ H
  | _ => False
section
variable {K : PySem.W.Frag} {Tb : List Addr} {W : WX} {H0 H H' H1 : Hp} {O0 O : List Addr} {ρ : Rho} {σ : L2.St} {p : Addr} {D : Ends} {ds : List PyData} {xs : List V}
theorem RpAll.beside (al : Al O H) (n : H p = none) (r : RpAll K (hide O H) xs ds) {o : HO} : RpAll K (hide (p :: O) (upd H p o)) xs ds := r.mono fun b x h t => by
  obtain ⟨h1, h2⟩ := hide_some h
  have hb : b ≠ p := ne_of_none h2 n
  rw [hide_out (by rw [List.mem_cons, not_or]; exact ⟨hb, h1⟩), upd_ne hb]
  exact h2
end
section
variable {X : Cx} {Tb : List Addr} {W : WX} {e : Expr} {es : List Expr} {f : Dn} {gl : DnL} {pos p : Pos} {x : Str}
/-- f ρ is a list: what is wanted once the parts are known -/
theorem tN_of {K : PySem.W.Frag} {O : List Addr} {H : Hp} {σ : L2.St} {Q : VK} {α β : Type} {Rl : Hp → β → α → Prop} {x : R α} {u : α → R PyData} {Q1 : β → Hp → Prop}
    (h : match x >>= u with
      | .ok (.list ds) => ∀ p vs H', Ext H H' → H p = none → H' p = some (.lst vs) → ds.length ≤ sizeLine → RpAll K (hide (p :: O) H') vs ds → Q (.ref p) H'
      | .exc e => AftX K O H e fun c d H => W c d σ H
      | _ => False)
    (hu : ∀ a e, u a ≠ .exc e)
    (k : ∀ a b H1, Ext H H1 → Rl H1 b a → (∀ ds, u a = .ok (.list ds) → (∀ p vs H', Ext H1 H' → H1 p = none → H' p = some (.lst vs) → ds.length ≤ sizeLine → RpAll K (hide (p :: O) H') vs ds → Q (.ref p) H') → Q1 b H1)) (nb : ∀ a, (∃ ds, u a = .ok (.list ds)) ∨ (match u a with | .ok (.list _) => True | _ => False) → True := by intros; trivial) :
    Post K O Rl (fun c d H => W c d σ H) H x Q1 := by
  cases x with
  | exc e => exact h
  | bad => exact h.elim
  | ok a =>
    intro b H1 ex r
    have h' : match u a with
      | .ok (.list ds) => ∀ p vs H', Ext H H' → H p = none → H' p = some (.lst vs) → ds.length ≤ sizeLine → RpAll K (hide (p :: O) H') vs ds → Q (.ref p) H'
      | .exc e => AftX K O H e fun c d H => W c d σ H
      | _ => False := h
    cases hu2 : u a with
    | bad => rw [hu2] at h'; exact h'.elim
    | exc e => exact absurd hu2 (hu a e)
    | ok d =>
      rw [hu2] at h'
      cases d with
      | list ds =>
        refine k a b H1 ex r ds hu2 fun p vs H' e2 n hp z rr => h' p vs H' (ex.trans e2) ?_ hp z rr
        cases q : H p with
        | none => rfl
        | some o => exact absurd n (ex.al p (by rw [q]; simp))
      | _ => exact h'.elim
theorem fn_lst (h : PA X es (tDs X.K Tb W gl)) : PE X (.List es pos) (tN X.K Tb W (dLst gl)) := (pe_lst h).by fun σ H Q ⟨H0, O0, O, ρ, st, h⟩ => by
  refine ⟨H0, O0, O, ρ, st, tN_of (u := fun xs => if xs.length ≤ sizeLine then .ok (.list xs) else .bad) h (fun a e q => by split at q <;> cases q) fun ds vs H1 ex r ds' e k => ?_⟩
  split at e
  · rename_i z
    cases e
    exact ⟨by rw [r.length]; exact z, fun p hp => k p vs _ (Ext.new hp) hp upd_same z (r.beside (st.step ex).al hp)⟩
  · cases e
theorem fn_list (hg : Gl X "list") (hm : X.mg "list" = none) (ha : PA X (e :: es) (tDs X.K Tb W gl)) (he : starEach (e :: es) X.env = (false, eval e X.env) :: starEach es X.env := by rfl) (hpl : (backTo pos (starEach es X.env)).any (·.1) = false := by rfl) : PE X (.Call (.Name "list" p) (e :: es) [] pos) (tN X.K Tb W (dArg bList gl)) :=
  (pe_callTy call_list_of hg hm boot_list ha (by decide) (by decide) he hpl).by fun σ H Q ⟨H0, O0, O, ρ, st, h⟩ => by
    refine ⟨H0, O0, O, ρ, st, tN_of (u := bList) h (fun a e q => by unfold bList items at q; split at q <;> (try split at q) <;> cases q) fun ds vs H1 ex r ds' e k => ?_⟩
    have al := (st.step ex).al
    unfold bList items at e
    split at e
    · split at e
      · cases e
        cases r with
        | cons r1 r2 =>
          cases r2
          cases r1 with
          | lst h1 z1 a1 => exact ⟨_, _, rfl, .inl (Sub.unhide.sqL h1), fun l hl => k l _ _ (Ext.new hl) hl upd_same z1 (a1.beside al hl)⟩
      · cases e
        cases r with
        | cons r1 r2 =>
          cases r2
          cases r1 with
          | tup h1 z1 a1 => exact ⟨_, _, rfl, .inr (Sub.unhide.sqT h1), fun l hl => k l _ _ (Ext.new hl) hl upd_same z1 (a1.beside al hl)⟩
      · cases e
    · cases e
/-- the slot's name takes the new list as its own -/
theorem own_end {K : PySem.W.Frag} {H0 H : Hp} {O0 O : List Addr} {ρ : Rho} {σ : L2.St} {D : Ends} {i : Nat} (st : St0 K Tb H0 O0 O H σ ρ) (h : PostS K Tb W H0 O0 (gOwn f i ρ) D) : tN K Tb W f σ H fun x H1 => D.nx (σ.set i (some x)) H1 := by
  refine ⟨H0, O0, O, ρ, st, ?_⟩
  unfold gOwn at h
  cases e : f ρ with
  | bad => rw [e] at h; exact h.elim
  | exc x => rw [e] at h; exact fun c d H1 ex r => h O σ H1 c d (st.step ex) r
  | ok d =>
    rw [e] at h
    cases d with
    | list ds => exact fun p vs H' ex n hp z r => h _ _ H' (st.ownNew ex n hp z r)
    | _ => exact h.elim
theorem fs_own {i : Nat} {pos' : Pos} (hN : X.N.Nodup) (hi : X.N[i]? = some x) (hx : Loc X.env.scope x) (he : PE X e (tN X.K Tb W f)) (hs : swapsWith e (some (.Name x pos')) pos.line X.env = pure false := by rfl)
    (hf : X.fn x = true ∨ X.env.scope.names.lookup x = some .local := by first | exact .inl rfl | exact .inr rfl | assumption) : PS X (.Assign [.Name x pos'] e pos) (tS X.K Tb W (gOwn f i)) := (ps_set hN hi hx he hs hf).by fun D σ H ⟨H0, O0, O, ρ, st, h⟩ => own_end st h
/-- the list at slot i, at the place of a method's receiver -/
theorem own_at {K : PySem.W.Frag} {H0 H : Hp} {O0 O : List Addr} {ρ : Rho} {σ : L2.St} {D : Ends} {i : Nat} {k : List PyData → Out} (st : St0 K Tb H0 O0 O H σ ρ) (h : PostS K Tb W H0 O0 (ownAt ρ i k) D) :
    ∃ ds p vs, ρ[i]? = some (some (.own ds)) ∧ σ[i]? = some (some (.ref p)) ∧ H p = some (.lst vs) ∧ ds.length ≤ sizeLine ∧ RpAll K (hide O H) vs ds ∧ PostS K Tb W H0 O0 (k ds) D := by
  unfold ownAt at h
  split at h
  · rename_i ds e
    obtain ⟨v, h1, p, vs, rfl, m, m0, hp, z, r⟩ := st.slot i _ e
    exact ⟨ds, p, vs, e, h1, hp, z, r, h⟩
  · exact h.elim
theorem fs_app {i : Nat} {apos npos cpos : Pos} (ho : X.N[i]? = some x) (hv : Vis X.env.scope x) (hd : (x == ("__debug__" : Str)) = false) (hcd : (x == ("__classdict__" : Str)) = false) (ha : PE X e (tD X.K Tb W f))
    (hse : starEach [e] X.env = (false, eval e X.env) :: starEach [] X.env) (hbase : attributeBase (.Name x npos) "append" X.env (eval (.Name x npos) X.env) = eval (.Name x npos) X.env)
    (hfew : ((backTo cpos (starEach [e] X.env)).all (fun x => !x.1) && (backToKw cpos (keywordEach [] X.env)).all (fun x => x.1.isSome)
      && decide (([e] : List Expr).length + ([] : List Keyword).length + (if ([] : List Keyword).isEmpty then 0 else 1) < 30)) = true)
    (hline : (apos.endLine == cpos.line) = true) (hplain : (backTo cpos (starEach [] X.env)).any (·.1) = false)
    (hs : swapsWith (.Call (.Attribute (.Name x npos) "append" apos) [e] [] cpos) none pos.line X.env = pure false) :
    PS X (.Expr (.Call (.Attribute (.Name x npos) "append" apos) [e] [] cpos) pos) (tS X.K Tb W (gApp i f)) :=
  (ps_expr (pe_bm PySem.F.plainAttrs_list PySem.F.slot_list_append PySem.F.type_list_append mt_append (pe_var ho hv hd hcd) (pa_cons ha pa_nil hse) hbase hfew hline hse hplain) hs).by fun D σ H ⟨H0, O0, O, ρ, st, h⟩ => by
    obtain ⟨ds, p, vs, e1, e2, hp, z, r, h⟩ := own_at st h
    refine ⟨.ref p, e2, .inl ⟨rfl, vs, .of hp⟩, H0, O0, O, ρ, st, oR_post st h fun d v H1 ex rv k => ?_⟩
    split at k
    · rename_i hl
      refine ⟨p, vs, v, rfl, rfl, ex.keep p _ hp (fun _ q => by cases q), by rw [r.length]; exact hl, k O σ _ ((st.step ex).ownSet e1 e2 ?_ ?_)⟩
      · rw [List.length_append]; simp; exact hl
      · exact (r.mono (Sub.hide ex.keep)).append (.one rv)
    · exact k.elim
end
def startR (n : Nat) (ds : List PyData) : Rho := ds.map (fun d => some (.d d)) ++ List.replicate (n - ds.length) none
def endR : Out → R PyData
  | .nx _ => .ok .none
  | .rt d => .ok d
  | .exc e _ => .exc e
  | _ => .bad
def runD (n p : Nat) (g : Sn) : List PyData → R PyData := fun ds => if ds.length = p then endR (g (startR n ds)) else .bad
def spD (K : PySem.W.Frag) (Tb : List Addr) (m : List PyData → R PyData) : Sp := fun vs H Q E => ∃ O ds, Al O H ∧ (∀ P ∈ Tb, TabC H P) ∧ RpAll K (hide O H) vs ds ∧ Post K O (RlD K O) E H (m ds) Q
def WE (E : XK) : WX := fun c d _ H => E c d H
theorem lets_of {X : Cx} {W : WX} (tk : L2N.Takes X W) (σ : L2.St) : PassesAt (L2N.CX X.prog X.w) X σ (L2.WE W σ) := L2N.passAt tk σ
theorem lets0 {X : Cx} (σ : L2.St) : PassesAt (L2N.CX X.prog X.w) X σ (L2.WE W0 σ) := fun _ _ _ _ _ _ h => by
  obtain ⟨_, _, _, _, _, _, _, _, _, _, _, _, z⟩ := h
  exact z.elim
section
variable {P : Program} {w : World} {K : PySem.W.Frag} {mg : Str → Option Value} {base : Heap} {Tb : List Addr}
/-- a def, by its body -/
theorem fn_okD {x qual : Str} {st : Stmt} {f : Addr} {fd : FuncData} {N ps : List Str} {k : Nat} {g : Sn} (F : Fun K x qual st f fd) (S : FnScope N ps (defScope st))
    (hb : ∀ (cdv : Value) (A : Around) (outer : List Env) (s : Shared) (H : Hp) (E : XK), Room k (A.deeper (envOfC qual (defScope st) s.heap.objs.size f cdv)) →
      PSs (cxOf (L2N.CX P w) P w K mg base N qual (defScope st) f cdv A outer s H E) (defBody st) (tS K Tb (WE E) g)) :
    FnOk P w K mg base (L2N.CX P w) (k + 1) f fd ps (spD K Tb (runD N.length ps.length g)) := by
  obtain ⟨oc, od, kV, doc, pm, an, cdv, ct, osl, rfl, lk, hcd⟩ := F.ex
  refine fn_of lk hcd S (fun vs H Q E h => ?_) fun A outer s H vs Q E hr h => ⟨_, hb cdv A outer s H E hr, ?_⟩
  · obtain ⟨O, ds, al, tb, r, h⟩ := h
    unfold runD at h
    split at h
    · rename_i e
      rw [r.length]; exact e
    · exact h.elim
  · obtain ⟨O, ds, al, tb, r, h⟩ := h
    unfold runD at h
    split at h
    · rename_i e
      have st := St0.init (N.length - ds.length) al tb r
      refine ⟨H, O, O, startR N.length ds, ?_, ?_⟩
      · unfold L2.start startR
        rw [r.length]
        exact st
      · cases q : g (startR N.length ds) with
        | nx ρ => rw [q] at h; exact fun O' σ' H' st' => h .non H' st'.ext .non
        | rt d => rw [q] at h; exact fun v H' e' r' => h v H' e' r'
        | exc x ρ => rw [q] at h; exact fun O' σ' H' c d st' ex => h c d H' st'.ext (by
            obtain ⟨h1, h2⟩ := ex
            refine ⟨h1, ?_⟩
            rcases h2 with h2 | ⟨dd, fs, h3, h4, h5, h6⟩
            · exact .inl h2
            · exact .inr ⟨dd, fs, h3, h4, h5, h6.mono (Sub.less st'.sub)⟩)
        | bk ρ => rw [q] at h; exact h.elim
        | ct ρ => rw [q] at h; exact h.elim
        | bad => rw [q] at h; exact h.elim
    · exact h.elim
end
section
variable {X : Cx} {Tb : List Addr} {W : WX} {k : Nat} {f : Addr} {fd : FuncData} {ps : List Str} {m : List PyData → R PyData} {x : Str} {p pos : Pos} {e : Expr} {es : List Expr} {gl : DnL}
theorem fd_call (F : FnOk X.prog X.w X.K X.mg X.base (L2N.CX X.prog X.w) k f fd ps (spD X.K Tb m)) (hr : Room k X.A) (hg : Gl X x) (hm : X.mg x = some (.ref f)) (hk : PySem.W.keepIn X.K (.ref f) = true) (hb : Binds X.K fd ps []) (hx : ∀ σ, PassesAt (L2N.CX X.prog X.w) X σ (L2.WE W σ))
    (ha : PA X (e :: es) (tDs X.K Tb W gl)) (hdb : (x == ("__debug__" : Str)) = false := by decide) (he : starEach (e :: es) X.env = (false, eval e X.env) :: starEach es X.env := by rfl) (hpl : (backTo pos (starEach es X.env)).any (·.1) = false := by rfl) :
    PE X (.Call (.Name x p) (e :: es) [] pos) (tD X.K Tb W (dArg m gl)) := (pe_callS F hr hg hm hk hb hx ha hdb he hpl).by fun σ H Q ⟨H0, O0, O, ρ, st, h⟩ => ⟨H0, O0, O, ρ, st, by
  refine Post.then h fun ds vs H1 ex r k => ?_
  exact ⟨O, ds, (st.step ex).al, (st.step ex).tab, r, k⟩⟩
end
end PD
set_option Elab.async false
set_option linter.all false
set_option maxRecDepth 100000
set_option maxHeartbeats 1000000
namespace PySem.W
open PySem PySem.Calls PySem.SeqAt PyProof.Rows
section
variable {prog : Program} {w : World} {A : Around} {s : Shared}
/-- does a tuple have a first item -/
def hasFst : PyData → Bool
  | .tuple (_ :: _) => true
  | _ => false
theorem call_tuple_ltP {E : Value → Shared → Prop} {Q : Value → Shared → Prop} {l b : Addr} {items items2 : Array Value} {e r : Nat → Bool} (hl : s.heap.IsTuple l items) (hb : s.heap.IsTuple b items2)
    (he : ∀ j (h1 : j < items.size) (h2 : j < items2.size), EqAt A.in1 s items[j] items2[j] (e j)) (hr : ∀ j (h1 : j < items.size) (h2 : j < items2.size), e j = false → RcLt A.in1 s items[j] items2[j] (r j))
    (h : Q (.bool (firstLt e r (decide (items.size < items2.size)) (List.range (min items.size items2.size)))) s) : wpAny (model prog w) A (call (.builtin "tuple.__lt__") [.ref l, .ref b]) Q E s := by
  obtain ⟨⟨c1, d1, x1, l1⟩, ho, hc, n, hd⟩ := id hl
  obtain ⟨⟨c2, d2, x2, l2⟩, ho2, hc2, n2, hd2⟩ := id hb
  simp only at hc hd hc2 hd2
  subst hc hd hc2 hd2
  exact call_meets F.slot_tuple_lt ⟨_, ho, rfl⟩ F.entry_tuple_lt (F.args_tuple_lt_2 _ _) (tuple_ltAt l b items items2 n n2 d1 d2 l1 l2 e r) ⟨ho, ho2, he, hr, h⟩
theorem oneLt_tup {f : Bool} {xs ys : List PyData} {a b : Value} {as bs : List Addr} {Q : Bool → Shared → Prop} {E : Value → Shared → Prop} (ra : Reads s.heap a (.tuple xs) as) (rb : Reads s.heap b (.tuple ys) bs) (hal : alikeAll xs ys = true)
    (hu : A.units + min (PyData.tuple xs).depth (PyData.tuple ys).depth < cLine) (hq : Q (dataLt (.tuple xs) (.tuple ys)) s) : wpAny (model prog w) A (oneLt' f a b) Q E s := by
  cases f with
  | false => exact oneLt_alike (fun h => by cases h) ra rb (by simpa [alike] using hal) (fun h => by cases h) hu hq
  | true =>
    cases ra with
    | @tuple l o vs n _ as1 h1 h2 h3 h4 =>
      cases rb with
      | @tuple l' o' vs' n' _ bs1 k1 k2 k3 k4 =>
        have n1 : vs.size = xs.length := by simpa using SeqAt.ReadsAll.length _ _ _ h4
        have n2 : vs'.size = ys.length := by simpa using SeqAt.ReadsAll.length _ _ _ k4
        rw [dataLt_tuple, ← firstLt_toks xs ys hal, ← n1, ← n2] at hq
        rw [oneLt'_eq]
        simp only [if_true]
        refine wpAny_bind (wpAny_cRoomFor (SeqAt.room_here hu) ?_)
        refine wpAny_bind (wpAny_callSpecialIfBound?_slot (T := "tuple") ⟨_, h1, h2⟩ F.slot_tuple_lt (call_tuple_ltP (e := pairEq xs ys) (r := fun j => dataLt (xs.getD j .none) (ys.getD j .none)) ⟨_, h1, h2, _, h3⟩ ⟨_, k1, k2, _, k3⟩ (fun j j1 j2 => ?_) (fun j j1 j2 hj => ?_) ?_))
        · have := eqAt_alikeAll xs ys A.in1 s vs.toList vs'.toList _ _ h4 k4 hal (SeqAt.room_in hu) j (by simpa using j1) (by simpa using j2)
          simpa using this
        · have := rcLt_alikeAll xs ys A.in1 s vs.toList vs'.toList _ _ h4 k4 hal (SeqAt.room_in hu) j (by simpa using j1) (by simpa using j2) hj
          simpa using this
        · exact wpAny_truthy_bool hq
theorem mapM_firsts {E : Value → Shared → Prop} : ∀ {vs : List Value} {ds : List PyData} {Q : List (Option Value) → Shared → Prop}, EachIs (fun v d => ∃ as, Reads s.heap v d as) vs ds → (∀ d ∈ ds, ∃ xs, d = .tuple xs) →
    (∀ rs : List (Option Value), rs.map (·.isSome) = ds.map hasFst → Q rs s) → wpAny (model prog w) A (vs.mapM firstOfTuple') Q E s
  | _, _, Q, .nil, _, h => by rw [List.mapM_nil]; exact wpAny_pure (h [] rfl)
  | _, _, Q, .cons (b := d) ⟨as, r⟩ t, ht, h => by
    rw [List.mapM_cons]
    obtain ⟨xs, rfl⟩ := ht d (List.mem_cons_self ..)
    cases r with
    | @tuple a o vs n _ _ ho hc hd hr =>
      refine wpAny_bind ?_
      rw [kas_first_eq]
      refine wpAny_bind (wpAny_typeOf_ref ho ?_)
      rw [hc, if_neg (by decide)]
      refine wpAny_bind (wpAny_listItems (prog := prog) (w := w) ho hd (wpAny_pure ?_))
      refine (wpAny_bind (mapM_firsts t (fun d hd => ht d (List.mem_cons_of_mem _ hd)) fun rs e => wpAny_pure (h _ ?_)))
      rw [List.map_cons, List.map_cons, e]
      congr 1
      have hl := SeqAt.ReadsAll.length _ _ _ hr
      cases xs with
      | nil =>
        have : vs.size = 0 := by simpa using hl
        simp [hasFst, this]
      | cons x xs =>
        have : 0 < vs.size := by simp at hl; omega
        simp [hasFst, this]
/-- tuples, some of them empty -/
theorem SortsAt.tuples {vs : List Value} {ds : List PyData} (e : EachIs (fun v d => ∃ as, Reads s.heap v d as) vs ds) (hal : AllAlike ds) (ht : ∀ d ∈ ds, ∃ xs, d = .tuple xs) (hu : ∀ d, d ∈ ds → A.units + d.depth < cLine) : SortsAt prog w A s (dataKind s.heap ds) vs := by
  by_cases hne : ∀ d ∈ ds, hasFst d = true
  · refine SortsAt.data e hal (.inl fun d hd => ?_) hu
    obtain ⟨xs, rfl⟩ := ht d hd
    have q := hne _ hd
    cases xs with
    | nil => cases q
    | cons x r => exact ⟨x, r, rfl⟩
  · refine ⟨fun v hv => ?_, ?_⟩
    · obtain ⟨d, hd, as, r⟩ := e.left v hv
      exact ⟨_, dataKind_some hal hd r⟩
    · have lt : ∀ f : Bool, ∀ (E : Value → Shared → Prop) (x y : Value) (a b : (dataKind s.heap ds).α) {Q : Bool → Shared → Prop}, (dataKind s.heap ds).keyOf x = some a → (dataKind s.heap ds).keyOf y = some b → Q ((dataKind s.heap ds).blt a b) s → wpAny (model prog w) A (oneLt' f x y) Q E s := by
        intro f E x y a b Q ha hb hq
        obtain ⟨d, as, hd, ra, rfl⟩ := dataKind_inv ha
        obtain ⟨d', as', hd', rb, rfl⟩ := dataKind_inv hb
        have hdd := hal d hd d' hd'
        have hroom : A.units + min d.depth d'.depth < cLine := Nat.lt_of_le_of_lt (Nat.add_le_add_left (Nat.min_le_left _ _) _) (hu d hd)
        obtain ⟨xs, rfl⟩ := ht d hd
        obtain ⟨ys, rfl⟩ := ht d' hd'
        exact oneLt_tup ra rb (by simpa [alike] using hdd) hroom hq
      have some0 : ∀ rs : List (Option Value), rs.map (·.isSome) = ds.map hasFst → ¬ (rs.toArray.all (·.isSome)) = true := fun rs er q => by
        apply hne
        intro d hd
        have q' : ∀ r ∈ rs, r.isSome = true := by simpa using q
        have m : hasFst d ∈ ds.map hasFst := List.mem_map.mpr ⟨d, hd, rfl⟩
        rw [← er] at m
        obtain ⟨r, hr, er2⟩ := List.mem_map.mp m
        rw [← er2]
        exact q' r hr
      cases ds with
      | nil => exact absurd (fun d hd => absurd hd (by simp)) hne
      | cons d0 r0 =>
        cases h0 : hasFst d0 with
        | true =>
          refine ⟨general', fun E x y a b Q ha hb hq => lt false E x y a b ha hb hq, fun h2 E Q hq => ?_⟩
          rw [keyKind'_eq, List.mapM_toArray, map_eq_pure_bind]
          refine wpAny_bind (wpAny_bind (mapM_firsts e ht fun rs er => wpAny_pure ?_))
          rw [if_neg (some0 rs er), if_pos ?_]
          · exact wpAny_pure hq
          · cases rs with
            | nil => cases er
            | cons r rr =>
              have : r.isSome = true := (List.cons.inj er).1.trans h0
              simpa using this
        | false =>
          refine ⟨oneType', fun E x y a b Q ha hb hq => lt true E x y a b ha hb hq, fun h2 E Q hq => ?_⟩
          rw [keyKind'_eq, List.mapM_toArray, map_eq_pure_bind]
          refine wpAny_bind (wpAny_bind (mapM_firsts e ht fun rs er => wpAny_pure ?_))
          rw [if_neg (some0 rs er), if_neg ?_]
          · rw [oneTypeOnly'_eq, List.mapM_toArray, map_eq_pure_bind]
            have hT : ∀ v ∈ vs, Looks (model prog w) s.heap (typeOf v) (Value.type "tuple") := fun v hv => by
              obtain ⟨d, hd, as, r⟩ := e.left v hv
              obtain ⟨xs, rfl⟩ := ht d hd
              exact looks_reads r
            cases vs with
            | nil => exact absurd h2 (by simp)
            | cons v1 vr =>
              refine wpAny_bind (wpAny_bind (wpAny_bind (kas_mapM (r := Value.type "tuple") _ (fun v hv Q' hq => (hT v hv).here hq) (wpAny_pure ?_))))
              have hall : ((List.map (fun _ => Value.type "tuple") (v1 :: vr)).toArray.all fun x => x == Value.type "tuple") = true := by
                simp only [List.all_toArray, List.all_map, List.all_eq_true]
                intro _ _
                exact beq_self_eq_true _
              have hz : (List.map (fun _ => Value.type "tuple") (v1 :: vr)).toArray[0]? = some (Value.type "tuple") := by simp
              rw [hz]
              simp only [hall, if_true]
              exact wpAny_pure (wpAny_pure hq)
          · cases rs with
            | nil => simp
            | cons r rr =>
              have : r.isSome = false := (List.cons.inj er).1.trans h0
              simpa using this
end
end PySem.W
namespace PD
open PySem PySem.Spec PyProof.Rows L2
section
variable {prog : Program} {w : World} {A : Around} {E : Value → Shared → Prop} {s : Shared}
theorem gather_tup {l : Addr} {vs : List Value} {Q : List Value → Shared → Prop} (hl : IsTup s.heap l vs.toArray)
    (h : Q vs { s with heap := (s.heap.push (seqObj "list" #[] 0)).update s.heap.objs.size (Obj.mapSeq (· ++ vs.toArray)) }) (hsz : vs.length ≤ sizeLine) :
    wpAny (model prog w) A (collect (.ref l)) Q E s := by
  obtain ⟨o, ho, hc, n, hd⟩ := id hl
  unfold collect
  refine wpAny_bind (wpAny_runValue (codeAny_builtin entry_proto_collect' ?_))
  show wpAny _ _ (do again (.builtin "list.__iadd__" ⟨[← newList [], .ref l], []⟩)) _ _ s
  refine wpAny_bind (wpAny_newList (wpAny_pure ⟨Code.quiet_builtin _ (by decide +kernel), codeAny_builtin entry_list_iadd' ?_⟩))
  show wpAny _ _ (Builtin.List.listExtendWith (.ref s.heap.objs.size) (.ref l) (.ref s.heap.objs.size)) _ _ { s with heap := s.heap.push (seqObj "list" #[] 0) }
  unfold Builtin.List.listExtendWith
  have ho' : (s.heap.push (seqObj "list" #[] 0)).get? l = some o := Heap.get?_push_of_some _ ho
  refine wpAny_bind (wpAny_typeOf (T := "tuple") ⟨o, ho', hc⟩ ?_)
  have ht : (Value.type "tuple" == Value.type "tuple") = true := by rfl
  rw [if_pos (by rw [ht]; simp)]
  refine wpAny_bind (listItems_at ho' hd ?_)
  refine wpAny_bind (listItems_at (xs := #[]) (n := 0) (Heap.get?_push_size _ rfl) rfl ?_)
  rw [if_neg (by simp)]
  refine wpAny_bind (listUpdate_at (xs := #[]) (n := 0) (Heap.get?_push_size _ rfl) rfl ?_ (Nat.zero_le _) (by show (#[] ++ vs.toArray).size ≤ sizeLine + 1; simp only [Array.size_append, List.size_toArray, List.length_nil]; omega))
  refine wpAny_pure ?_
  show wpAny (model prog w) A (do
      let o ← load s.heap.objs.size
      match o.data with
      | .seq xs _ => pure xs.toList
      | _ => unsupported "internal:collect") Q E { s with heap := (s.heap.push (seqObj "list" #[] 0)).update s.heap.objs.size (Obj.mapSeq (· ++ vs.toArray)) }
  refine wpAny_bind (wpAny_load (get?_update_seq (Heap.get?_push_size _ rfl) _) ?_)
  show wpAny _ _ (pure ((#[] : Array Value) ++ vs.toArray).toList) Q E _
  rw [show ((#[] : Array Value) ++ vs.toArray).toList = vs by simp]
  exact wpAny_pure h
theorem sorted_tup {κ : PyProof.Rows.KeyKind} {l : Addr} {vs : List Value} {Q : Value → Shared → Prop} (hl : IsTup s.heap l vs.toArray) (S : PySem.W.SortsAt prog w A.in1.in1 { s with heap := PySem.W.sortingHeap (PySem.W.copyHeap s.heap vs) (s.heap.objs.size + 1) vs } κ vs) (hL : vs.length ≤ sizeLine)
    (h : Q (.ref (s.heap.objs.size + 1)) { s with heap := sortedAll s.heap vs (PySem.W.sortVals κ false vs vs).toArray }) : wpAny (model prog w) A (call (.builtin "sorted") [.ref l]) Q E s := by
  refine call_function_entry_kw kind_sorted plain_sorted entry_sorted (args_sorted1 _) ?_
  unfold Builtin.«sorted»
  refine wpAny_bind (m := checkCount "sorted" 1 1 _) (wpAny_pure ?_)
  refine wpAny_bind (gather_tup hl ?_ hL)
  refine wpAny_bind (wpAny_newList ?_ hL)
  have hsz : ((s.heap.push (seqObj "list" #[] 0)).update s.heap.objs.size (Obj.mapSeq (· ++ vs.toArray))).objs.size = s.heap.objs.size + 1 := by
    rw [Heap.size_update]; exact Heap.size_push ..
  show wpAny _ _ _ _ _ { s with heap := PySem.W.copyHeap s.heap vs }
  rw [hsz]
  refine wpAny_bind (wpAny_holding (wpAny_call_entry_kw slot_list_sort ⟨_, PySem.W.copyHeap_at s.heap vs, rfl⟩ entry_list_sort ?body (args_list_sort _)))
  case body =>
    show wpAny (model prog w) A.in1.in1 (Builtin.«list.sort» ⟨[.ref (s.heap.objs.size + 1)], []⟩) _ _ _
    refine PySem.W.list_sort_vals (s := { s with heap := PySem.W.copyHeap s.heap vs }) (PySem.W.copyHeap_at s.heap vs) S hL ?_
    exact ⟨_, rfl, wpAny_pure ⟨_, rfl, h⟩⟩
end
def allTup (ds : List PyData) : Bool := ds.all fun d => match d with | .tuple _ => true | _ => false
def allNot (ds : List PyData) : Bool := ds.all fun d => match d with | .tuple _ => false | .none => false | _ => true
def allAlike (ds : List PyData) : Bool := ds.all fun d => ds.all fun e => PySem.W.alike d e
def okSort (ds : List PyData) : Bool := allAlike ds && (allTup ds || allNot ds) && ds.all fun d => decide (d.depth ≤ 60)
def sortD (ds : List PyData) : List PyData := ds.mergeSort (PySem.W.dataLe false id)
def bSorted : List PyData → R PyData
  | [.list xs] => if okSort xs = true then .ok (.list (sortD xs)) else .bad
  | [.tuple xs] => if okSort xs = true then .ok (.list (sortD xs)) else .bad
  | _ => .bad
mutual
theorem nod_of_alike : ∀ {d : PyData}, PySem.W.alike d d = true → nod d = true
  | .none, _ => rfl
  | .bool _, _ => rfl
  | .int _, _ => rfl
  | .str _, _ => rfl
  | .list xs, h => by
    rw [PySem.W.alike] at h
    exact nodAll_of_alike (xs := xs) h
  | .tuple xs, h => by
    rw [PySem.W.alike] at h
    exact nodAll_of_alike (xs := xs) h
  | .dict _, h => by simp [PySem.W.alike] at h
theorem nodAll_of_alike : ∀ {xs : List PyData}, PySem.W.alikeAll xs xs = true → nodAll xs = true
  | [], _ => rfl
  | x :: xs, h => by
    rw [PySem.W.alikeAll, Bool.and_eq_true] at h
    show (nod x && nodAll xs) = true
    rw [Bool.and_eq_true]
    exact ⟨nod_of_alike h.1, nodAll_of_alike h.2⟩
end
section
variable {X : Cx} {K : PySem.W.Frag}
theorem rpAll_reads {pins : List (Addr × Obj)} {σ : L2.St} {H : Hp} {s : Shared} {G : Hp} (I : Inv X pins σ H s) (sub : Sub G H) : ∀ {xs : List V} {ds : List PyData} {us : List Value}, RpAll X.K G xs ds → Vals xs us → (∀ d ∈ ds, nod d = true) → PySem.W.EachIs (fun v d => ∃ as, Reads s.heap v d as) us ds
  | _, _, _, .nil, .nil, _ => .nil
  | _, _, _, .cons r t, .cons q u, h => .cons (Dp.reads I _ _ _ ((r.mono sub).dp (h _ List.mem_cons_self)) q) (rpAll_reads I sub t u fun d hd => h d (List.mem_cons_of_mem _ hd))
theorem rpAll_each {G : Hp} : ∀ {xs : List V} {ds : List PyData} {us : List Value}, RpAll K G xs ds → Vals xs us → PySem.W.EachIs (fun u d => ∃ v, RelV v u ∧ Rp K G v d) us ds
  | _, _, _, .nil, .nil => .nil
  | _, _, _, .cons r t, .cons q u => .cons ⟨_, q, r⟩ (rpAll_each t u)
theorem each_rpAll {G : Hp} : ∀ {us : List Value} {ds : List PyData}, PySem.W.EachIs (fun u d => ∃ v, RelV v u ∧ Rp K G v d) us ds → ∃ xs, Vals xs us ∧ RpAll K G xs ds
  | _, _, .nil => ⟨[], .nil, .nil⟩
  | _, _, .cons ⟨v, q, r⟩ t => by
    obtain ⟨xs, h1, h2⟩ := each_rpAll t
    exact ⟨v :: xs, .cons q h1, .cons r h2⟩
def rSortD (K : PySem.W.Frag) : List V → Hp → VK → Prop := fun vs H Q => ∃ (G : Hp) (a : Addr) (xs : List V) (ds : List PyData), vs = [V.ref a] ∧ Sub G H ∧ (SqL K H a xs ∨ SqT K H a xs) ∧ RpAll K G xs ds ∧ okSort ds = true ∧
  ∀ p ys, H p = none → ys.length = xs.length → RpAll K G ys (sortD ds) → Q (.ref p) (upd H p (.lst ys))
theorem okSort_of {ds : List PyData} (h : okSort ds = true) : PySem.W.AllAlike ds ∧ ((∀ d ∈ ds, ∃ xs, d = .tuple xs) ∨ ∀ d ∈ ds, d ≠ .none ∧ ∀ xs, d ≠ .tuple xs) ∧ ∀ d ∈ ds, d.depth ≤ 60 := by
  unfold okSort at h
  rw [Bool.and_eq_true, Bool.and_eq_true, Bool.or_eq_true] at h
  obtain ⟨⟨h1, h2⟩, h3⟩ := h
  refine ⟨fun d hd e he => ?_, ?_, fun d hd => ?_⟩
  · unfold allAlike at h1
    rw [List.all_eq_true] at h1
    have := h1 d hd
    rw [List.all_eq_true] at this
    exact this e he
  · rcases h2 with h2 | h2
    · refine .inl fun d hd => ?_
      unfold allTup at h2
      rw [List.all_eq_true] at h2
      have := h2 d hd
      cases d <;> first | exact ⟨_, rfl⟩ | cases this
    · refine .inr fun d hd => ?_
      unfold allNot at h2
      rw [List.all_eq_true] at h2
      have := h2 d hd
      cases d <;> first | exact absurd this Bool.false_ne_true | exact ⟨by simp, by simp⟩
  · rw [List.all_eq_true] at h3
    exact of_decide_eq_true (h3 d hd)
theorem cr_sortD (hu : X.A.units + 64 < cLine) : CallR X (.builtin "sorted") (rSortD X.K) := by
  intro pins s σ H vs us Q I r h
  obtain ⟨G, a, xs, ds, rfl, sub, hs, ra, ok, q⟩ := h
  obtain ⟨al, kind, dep⟩ := okSort_of ok
  obtain ⟨its, rv, hl, hz⟩ : ∃ its : List Value, Vals xs its ∧ (s.heap.IsList a its.toArray ∨ IsTup s.heap a its.toArray) ∧ xs.length ≤ sizeLine := by
    rcases hs with hs | hs
    · obtain ⟨its, rv, hl, hz⟩ := I.list hs
      exact ⟨its, rv, .inl hl.isList, hz⟩
    · obtain ⟨its, rv, hl, hz⟩ := I.tuple hs
      exact ⟨its, rv, .inr hl, hz⟩
  rw [Vals.ref1 r]
  have er := rpAll_reads I sub ra rv fun d hd => nod_of_alike (al d hd d hd)
  have ev := rpAll_each ra rv
  have er' : PySem.W.EachIs (fun v d => ∃ as, Reads (PySem.W.sortingHeap (PySem.W.copyHeap s.heap its) (s.heap.objs.size + 1) its) v d as) its ds := er.mono fun _ _ ⟨as, r⟩ => ⟨as, PyProof.Rows.Reads.keeps (fun _ _ => PySem.W.sorting_copy_old) r⟩
  have hlen := rv.length
  have hu2 : ∀ d, d ∈ ds → X.A.in1.in1.units + d.depth < cLine := fun d hd => by
    have h1 := dep d hd
    show X.A.units + 1 + 1 + d.depth < cLine
    omega
  have S : PySem.W.SortsAt X.prog X.w X.A.in1.in1 { s with heap := PySem.W.sortingHeap (PySem.W.copyHeap s.heap its) (s.heap.objs.size + 1) its } (PySem.W.dataKind (PySem.W.sortingHeap (PySem.W.copyHeap s.heap its) (s.heap.objs.size + 1) its) ds) its := by
    rcases kind with k | k
    · exact PySem.W.SortsAt.tuples (s := { s with heap := PySem.W.sortingHeap (PySem.W.copyHeap s.heap its) (s.heap.objs.size + 1) its }) er' al k hu2
    · exact PySem.W.SortsAt.data (s := { s with heap := PySem.W.sortingHeap (PySem.W.copyHeap s.heap its) (s.heap.objs.size + 1) its }) er' al (.inr k) hu2
  refine (hl.elim (fun hl h => PySem.W.sorted_vals hl S (by rw [← hlen]; exact hz) h) (fun hl h => sorted_tup hl S (by rw [← hlen]; exact hz) h) : (_ → wpAny _ _ _ _ _ _)) ?_
  have eo := PySem.W.sortVals_data (h' := PySem.W.sortingHeap (PySem.W.copyHeap s.heap its) (s.heap.objs.size + 1) its) (enc := id) false ev (er'.mono fun _ _ h => h) (by rw [List.map_id]; exact al)
  rw [List.map_id] at eo
  obtain ⟨ys, hy1, hy2⟩ := each_rpAll eo
  obtain ⟨ep, he⟩ := PyProof.Rows.sortedAll_at s.heap its (PySem.W.sortVals (PySem.W.dataKind (PySem.W.sortingHeap (PySem.W.copyHeap s.heap its) (s.heap.objs.size + 1) its) ds) false its its).toArray
  have hyl : ys.length = xs.length := by
    rw [hy2.length, ra.length]
    exact List.length_mergeSort ds
  exact ⟨.ref _, upd H (s.heap.objs.size + 1) (.lst ys), I.laid (t' := s.toks) (fun _ _ => PyProof.Rows.sortedAll_old) (Nat.le_succ _) ⟨by rw [hyl]; exact hz, _, ep, hy1, he⟩, rfl, q _ ys (I.hok.fresh (Nat.le_succ _)) hyl hy2⟩
theorem ok_sorted : OkL K (rSortD K) bSorted := by
  intro O H Wx vs ds Q al r h
  unfold bSorted at h
  split at h
  · split at h
    · rename_i xs ok
      cases r with
      | cons r1 r2 =>
        cases r2
        cases r1 with
        | lst h1 z1 a1 =>
          refine ⟨hide O H, _, _, _, rfl, Sub.unhide, .inl (Sub.unhide.sqL h1), a1, ok, fun p ys hp hy ry => Post.newLst al h ?_ ry p hp⟩
          have : (sortD xs).length = xs.length := List.length_mergeSort xs
          rw [this]; exact z1
    · exact h.elim
  · split at h
    · rename_i xs ok
      cases r with
      | cons r1 r2 =>
        cases r2
        cases r1 with
        | tup h1 z1 a1 =>
          refine ⟨hide O H, _, _, _, rfl, Sub.unhide, .inr (Sub.unhide.sqT h1), a1, ok, fun p ys hp hy ry => Post.newLst al h ?_ ry p hp⟩
          have : (sortD xs).length = xs.length := List.length_mergeSort xs
          rw [this]; exact z1
    · exact h.elim
  · exact h.elim
end
end PD
set_option Elab.async false
set_option linter.all false
set_option maxRecDepth 100000
set_option maxHeartbeats 1000000
namespace PD
open PySem PySem.Spec PyProof.Rows L2 GenW
/-- the same heap -/
theorem inv_gens {X : Cx} {pins : List (Addr × Obj)} {σ : L2.St} {H : Hp} {s s' : Shared} (I : Inv X pins σ H s) (hp : s'.heap = s.heap) (os : s'.os = s.os) (b : AllBare s'.gens) : Inv X pins σ H s' := by
  obtain ⟨h', g', d', t', o'⟩ := s'
  cases hp; cases os
  exact { I with bare := b }
def GI (XG : Cx) (fp : List Addr) (tn : Nat → Heap → Prop) (σw : L2.St) (W : Nat → Nat → Hp → Prop) (i m : Nat) (s : Shared) : Prop := ∃ H', Inv XG [] σw H' s ∧ tn i s.heap ∧ (∀ b ∈ fp, H' b = none) ∧ W i m H'
def FB (XG : Cx) (Q : VK) (b : Bool) (s : Shared) : Prop := ∃ pins' σ' H', Inv XG pins' σ' H' s ∧ Q (.bl b) H'
section
variable {X XG : Cx} {A : Around} {fp : List Addr} {tn : Nat → Heap → Prop} {σw : L2.St} {W : Nat → Nat → Hp → Prop} {Q : VK} {stop : Bool} {Rr : Result → Shared → Prop} {P : Program} {w : World}
theorem FB.gens {b : Bool} {s s' : Shared} (h : FB XG Q b s) (e : s'.heap = s.heap) (os : s'.os = s.os) (bb : AllBare s'.gens) : FB XG Q b s' := by
  obtain ⟨p, σ, H, I, q⟩ := h
  exact ⟨p, σ, H, inv_gens I e os bb, q⟩
theorem FB.bare {b : Bool} {s : Shared} (h : FB XG Q b s) : AllBare s.gens := by
  obtain ⟨p, σ, H, I, q⟩ := h
  exact I.bare
theorem FB.kept {b : Bool} {s : Shared} {h' : Heap} (h : FB XG Q b s) (k : ∀ b o, s.heap.get? b = some o → h'.get? b = some o) : FB XG Q b { s with heap := h' } := by
  obtain ⟨p, σ, H, I, q⟩ := h
  exact ⟨p, σ, H, I.un (t' := s.toks) (Un.kept k) (I.hok.kept k), q⟩
theorem GI.bare {i m : Nat} {s : Shared} (h : GI XG fp tn σw W i m s) : AllBare s.gens := by
  obtain ⟨H, I, q⟩ := h
  exact I.bare
theorem GI.gens {i m : Nat} {s s' : Shared} (h : GI XG fp tn σw W i m s) (e : s'.heap = s.heap) (os : s'.os = s.os) (bb : AllBare s'.gens) : GI XG fp tn σw W i m s' := by
  obtain ⟨H, I, t, n, q⟩ := h
  exact ⟨H, inv_gens I e os bb, by rw [e]; exact t, n, q⟩
end
end PD
set_option Elab.async false
set_option linter.all false
set_option maxRecDepth 100000
set_option maxHeartbeats 1000000
namespace PD
open PySem PySem.Spec PyProof.Rows L2
def anyGo (stop : Bool) (t : Tg) (ft : DnB) (fe : Dn) (ρ : Rho) : List PyData → R Bool
  | [] => .ok (!stop)
  | d :: ds => match t.set d ρ with
    | some ρ1 => nx (ft ρ1) fun b => if b = true then nx (fe ρ1) fun y => match y with
        | .bool c => if c = stop then .ok stop else anyGo stop t ft fe ρ ds
        | _ => .bad
      else anyGo stop t ft fe ρ ds
    | none => .bad
def dAnyG (stop : Bool) (fi : DnL) (t : Tg) (ft : DnB) (fe : Dn) (vs : List Nat) : Dn := fun ρ => fi ρ >>= fun ds => nx (anyGo stop t ft fe (wipeR ρ vs) ds) fun b => .ok (.bool b)
end PD
set_option Elab.async false
set_option linter.all false
set_option maxRecDepth 100000
set_option maxHeartbeats 1000000
namespace PD
open PySem PySem.Spec PyProof.Rows L2
def gPopAt (i : Nat) (f : Dn) : Sn := fun ρ => ownAt ρ i fun ds => oR (f ρ) ρ fun d => match d with
  | .int k => match seqIndex? k ds.length with
    | some j => if -(2 ^ 63) ≤ k ∧ k < 2 ^ 63 ∧ j < ds.length then .nx (ρ.set i (some (.own (ds.eraseIdx j)))) else .bad
    | none => .bad
  | _ => .bad
theorem RpAll.dropLast {K : PySem.W.Frag} {G : Hp} {vs : List V} {ds : List PyData} (h : RpAll K G vs ds) : RpAll K G vs.dropLast ds.dropLast := by
  rw [List.dropLast_eq_take, List.dropLast_eq_take, h.length]
  exact h.take _
theorem RpAll.last {K : PySem.W.Frag} {G : Hp} {vs : List V} {ds : List PyData} (h : RpAll K G vs ds) (n : ds ≠ []) : ∃ y d, vs[vs.length - 1]? = some y ∧ ds[ds.length - 1]? = some d ∧ Rp K G y d := by
  have hl : 0 < ds.length := List.length_pos_iff.mpr n
  obtain ⟨y, h1, h2⟩ := h.get' (i := ds.length - 1) (d := ds[ds.length - 1]) (List.getElem?_eq_getElem _)
  exact ⟨y, _, by rw [h.length]; exact h1, List.getElem?_eq_getElem _, h2⟩
def lstRg (lo hi : Int) : List PyData := (List.range (hi - lo).toNat).map fun i => .int (lo + (i : Nat))
def rgOk (a b : Int) : Bool := decide (-(2 ^ 62) ≤ a ∧ a < 2 ^ 62 ∧ -(2 ^ 62) ≤ b ∧ b < 2 ^ 62 ∧ (b - a).toNat ≤ 2 ^ 24)
def bLstR1 : PyData → R PyData
  | .int n => if rgOk 0 n = true then .ok (.list (lstRg 0 n)) else .bad
  | _ => .bad
end PD
set_option Elab.async false
set_option linter.all false
set_option maxRecDepth 100000
set_option maxHeartbeats 1000000
namespace PD
open PySem PySem.Spec PyProof.Rows L2
/-- the module hides none of the names that Python gives -/
structure Bi (mg : Str → Option Value) : Prop where
  len : mg "len" = none
  int : mg "int" = none
  bool : mg "bool" = none
  abs : mg "abs" = none
  tuple : mg "tuple" = none
  list : mg "list" = none
  sum : mg "sum" = none
  max : mg "max" = none
  min : mg "min" = none
  any : mg "any" = none
  all : mg "all" = none
  range : mg "range" = none
  isinstance : mg "isinstance" = none
  sorted : mg "sorted" = none
  enumerate : mg "enumerate" = none
  zip : mg "zip" = none
  set : mg "set" = none
section
variable {X : Cx} {Tb : List Addr} {W : WX} {a b e : Expr} {es : List Expr} {f g : Dn} {gl : DnL} {pos p : Pos} {k : Nat}
theorem boot_max : bootBuiltins "max" = some (.builtin "max") := by decide +kernel
theorem boot_min : bootBuiltins "min" = some (.builtin "min") := by decide +kernel
theorem boot_abs : bootBuiltins "abs" = some (.builtin "abs") := by decide +kernel
theorem boot_sorted : bootBuiltins "sorted" = some (.builtin "sorted") := by decide +kernel
theorem boot_any : bootBuiltins "any" = some (.builtin "any") := by decide +kernel
theorem boot_all : bootBuiltins "all" = some (.builtin "all") := by decide +kernel
theorem _root_.L2.Room.u64 {k : Nat} {A : Around} (r : Room k A) : A.units + 64 < cLine := by have := r.un; omega
theorem _root_.L2.Room.u65 {k : Nat} {A : Around} (r : Room k A) : A.units + 65 < cLine := by have := r.un; omega
theorem e_eq (hr : Room k X.A) (ha : PE X a (tD X.K Tb W f)) (hb : PE X b (tD X.K Tb W g)) (hm : behindInMarks .Eq b = false := by rfl) : PE X (.Compare a [.Eq] [b] pos) (tD X.K Tb W (dTwo oEq f g)) := fd_cmp (op_eqD hr.u64) ok_eq ha hb hm
theorem e_ne (hr : Room k X.A) (ha : PE X a (tD X.K Tb W f)) (hb : PE X b (tD X.K Tb W g)) (hm : behindInMarks .NotEq b = false := by rfl) : PE X (.Compare a [.NotEq] [b] pos) (tD X.K Tb W (dTwo oNe f g)) := fd_cmp (op_neD hr.u64) ok_ne ha hb hm
theorem e_le (ha : PE X a (tD X.K Tb W f)) (hb : PE X b (tD X.K Tb W g)) (hm : behindInMarks .LtE b = false := by rfl) : PE X (.Compare a [.LtE] [b] pos) (tD X.K Tb W (dTwo oLe f g)) := fd_cmp op_le ok_le ha hb hm
theorem e_ge (ha : PE X a (tD X.K Tb W f)) (hb : PE X b (tD X.K Tb W g)) (hm : behindInMarks .GtE b = false := by rfl) : PE X (.Compare a [.GtE] [b] pos) (tD X.K Tb W (dTwo oGe f g)) := fd_cmp op_ge ok_ge ha hb hm
theorem e_in (hr : Room k X.A) (ha : PE X a (tD X.K Tb W f)) (hb : PE X b (tD X.K Tb W g)) (hm : behindInMarks .In b = false := by rfl) : PE X (.Compare a [.In] [b] pos) (tD X.K Tb W (dTwo oIn f g)) := fd_cmp (PD.op_inS hr.u65) ok_in ha hb hm
theorem t_eq (hr : Room k X.A) (ha : PE X a (tD X.K Tb W f)) (hb : PE X b (tD X.K Tb W g)) (hm : behindInMarks .Eq b = false := by rfl) : PT X (.Compare a [.Eq] [b] pos) (tDT X.K Tb W (dAsB (dTwo oEq f g))) := ft_cmp (op_eqD hr.u64) ok_eq ha hb hm
theorem t_ne (hr : Room k X.A) (ha : PE X a (tD X.K Tb W f)) (hb : PE X b (tD X.K Tb W g)) (hm : behindInMarks .NotEq b = false := by rfl) : PT X (.Compare a [.NotEq] [b] pos) (tDT X.K Tb W (dAsB (dTwo oNe f g))) := ft_cmp (op_neD hr.u64) ok_ne ha hb hm
theorem t_lt (ha : PE X a (tD X.K Tb W f)) (hb : PE X b (tD X.K Tb W g)) (hm : behindInMarks .Lt b = false := by rfl) : PT X (.Compare a [.Lt] [b] pos) (tDT X.K Tb W (dAsB (dTwo oLt f g))) := ft_cmp op_lt ok_lt ha hb hm
theorem t_le (ha : PE X a (tD X.K Tb W f)) (hb : PE X b (tD X.K Tb W g)) (hm : behindInMarks .LtE b = false := by rfl) : PT X (.Compare a [.LtE] [b] pos) (tDT X.K Tb W (dAsB (dTwo oLe f g))) := ft_cmp op_le ok_le ha hb hm
theorem t_gt (ha : PE X a (tD X.K Tb W f)) (hb : PE X b (tD X.K Tb W g)) (hm : behindInMarks .Gt b = false := by rfl) : PT X (.Compare a [.Gt] [b] pos) (tDT X.K Tb W (dAsB (dTwo oGt f g))) := ft_cmp op_gt ok_gt ha hb hm
theorem t_ge (ha : PE X a (tD X.K Tb W f)) (hb : PE X b (tD X.K Tb W g)) (hm : behindInMarks .GtE b = false := by rfl) : PT X (.Compare a [.GtE] [b] pos) (tDT X.K Tb W (dAsB (dTwo oGe f g))) := ft_cmp op_ge ok_ge ha hb hm
theorem t_in (hr : Room k X.A) (ha : PE X a (tD X.K Tb W f)) (hb : PE X b (tD X.K Tb W g)) (hm : behindInMarks .In b = false := by rfl) : PT X (.Compare a [.In] [b] pos) (tDT X.K Tb W (dAsB (dTwo oIn f g))) := ft_cmp (PD.op_inS hr.u65) ok_in ha hb hm
theorem t_notin (hr : Room k X.A) (ha : PE X a (tD X.K Tb W f)) (hb : PE X b (tD X.K Tb W g)) (hm : behindInMarks .NotIn b = false := by rfl) : PT X (.Compare a [.NotIn] [b] pos) (tDT X.K Tb W (dAsB (dTwo oNotIn f g))) := ft_cmp (PD.op_notInS hr.u65) ok_notIn ha hb hm
theorem e_ix (ha : PE X a (tD X.K Tb W f)) (hb : PE X b (tD X.K Tb W g)) (hs : PlainIx b := by intro _ _; rfl) : PE X (.Subscript a b pos) (tD X.K Tb W (dTwo oIx f g)) := fd_ix ha hb hs
theorem e_len (B : Bi X.mg) (ha : PA X (e :: es) (tDs X.K Tb W gl)) (hg : Gl X "len" := by rfl) (he : starEach (e :: es) X.env = (false, eval e X.env) :: starEach es X.env := by rfl) (hpl : (backTo pos (starEach es X.env)).any (·.1) = false := by rfl) :
    PE X (.Call (.Name "len" p) (e :: es) [] pos) (tD X.K Tb W (dArg bLen gl)) := fd_callB call_len_seq ok_len hg B.len PySem.boot_len ha (by decide) (by decide) he hpl
theorem e_int (B : Bi X.mg) (ha : PA X (e :: es) (tDs X.K Tb W gl)) (hg : Gl X "int" := by rfl) (he : starEach (e :: es) X.env = (false, eval e X.env) :: starEach es X.env := by rfl) (hpl : (backTo pos (starEach es X.env)).any (·.1) = false := by rfl) :
    PE X (.Call (.Name "int" p) (e :: es) [] pos) (tD X.K Tb W (dArg bInt gl)) := fd_callTy call_int1 ok_int hg B.int boot_int ha (by decide) (by decide) he hpl
theorem e_abs (B : Bi X.mg) (ha : PA X (e :: es) (tDs X.K Tb W gl)) (hg : Gl X "abs" := by rfl) (he : starEach (e :: es) X.env = (false, eval e X.env) :: starEach es X.env := by rfl) (hpl : (backTo pos (starEach es X.env)).any (·.1) = false := by rfl) :
    PE X (.Call (.Name "abs" p) (e :: es) [] pos) (tD X.K Tb W (dArg bAbs gl)) := fd_callB call_abs ok_abs hg B.abs boot_abs ha (by decide) (by decide) he hpl
theorem e_tuple (B : Bi X.mg) (ha : PA X (e :: es) (tDs X.K Tb W gl)) (hg : Gl X "tuple" := by rfl) (he : starEach (e :: es) X.env = (false, eval e X.env) :: starEach es X.env := by rfl) (hpl : (backTo pos (starEach es X.env)).any (·.1) = false := by rfl) :
    PE X (.Call (.Name "tuple" p) (e :: es) [] pos) (tD X.K Tb W (dArg bTuple gl)) := fd_callTy call_tuple_of ok_tuple hg B.tuple boot_tuple ha (by decide) (by decide) he hpl
theorem e_list (B : Bi X.mg) (ha : PA X (e :: es) (tDs X.K Tb W gl)) (hg : Gl X "list" := by rfl) (he : starEach (e :: es) X.env = (false, eval e X.env) :: starEach es X.env := by rfl) (hpl : (backTo pos (starEach es X.env)).any (·.1) = false := by rfl) :
    PE X (.Call (.Name "list" p) (e :: es) [] pos) (tD X.K Tb W (dArg bList gl)) := fd_callTy call_list_of ok_list hg B.list boot_list ha (by decide) (by decide) he hpl
theorem e_max (B : Bi X.mg) (ha : PA X (e :: es) (tDs X.K Tb W gl)) (hc : X.calm = true := by rfl) (hg : Gl X "max" := by rfl) (he : starEach (e :: es) X.env = (false, eval e X.env) :: starEach es X.env := by rfl) (hpl : (backTo pos (starEach es X.env)).any (·.1) = false := by rfl) :
    PE X (.Call (.Name "max" p) (e :: es) [] pos) (tD X.K Tb W (dArg bMax gl)) := fd_callB (cr_max hc) ok_max hg B.max boot_max ha (by decide) (by decide) he hpl
theorem e_min2 (B : Bi X.mg) (ha : PA X (e :: es) (tDs X.K Tb W gl)) (hc : X.calm = true := by rfl) (hg : Gl X "min" := by rfl) (he : starEach (e :: es) X.env = (false, eval e X.env) :: starEach es X.env := by rfl) (hpl : (backTo pos (starEach es X.env)).any (·.1) = false := by rfl) :
    PE X (.Call (.Name "min" p) (e :: es) [] pos) (tD X.K Tb W (dArg bMin2 gl)) := fd_callB (call_min2 hc) ok_min2 hg B.min boot_min ha (by decide) (by decide) he hpl
theorem e_any (B : Bi X.mg) (ha : PA X (e :: es) (tDs X.K Tb W gl)) (hc : X.calm = true := by rfl) (hg : Gl X "any" := by rfl) (he : starEach (e :: es) X.env = (false, eval e X.env) :: starEach es X.env := by rfl) (hpl : (backTo pos (starEach es X.env)).any (·.1) = false := by rfl) :
    PE X (.Call (.Name "any" p) (e :: es) [] pos) (tD X.K Tb W (dArg bAny gl)) := fd_callB (cr_any hc) ok_any hg B.any boot_any ha (by decide) (by decide) he hpl
theorem e_all (B : Bi X.mg) (ha : PA X (e :: es) (tDs X.K Tb W gl)) (hc : X.calm = true := by rfl) (hg : Gl X "all" := by rfl) (he : starEach (e :: es) X.env = (false, eval e X.env) :: starEach es X.env := by rfl) (hpl : (backTo pos (starEach es X.env)).any (·.1) = false := by rfl) :
    PE X (.Call (.Name "all" p) (e :: es) [] pos) (tD X.K Tb W (dArg bAll gl)) := fd_callB (cr_all hc) ok_all hg B.all boot_all ha (by decide) (by decide) he hpl
theorem e_sorted (B : Bi X.mg) (hr : Room k X.A) (ha : PA X (e :: es) (tDs X.K Tb W gl)) (hg : Gl X "sorted" := by rfl) (he : starEach (e :: es) X.env = (false, eval e X.env) :: starEach es X.env := by rfl) (hpl : (backTo pos (starEach es X.env)).any (·.1) = false := by rfl) :
    PE X (.Call (.Name "sorted" p) (e :: es) [] pos) (tD X.K Tb W (dArg bSorted gl)) := fd_callB (cr_sortD hr.u64) ok_sorted hg B.sorted boot_sorted ha (by decide) (by decide) he hpl
theorem e_isInt (B : Bi X.mg) {py : Pos} (ha : PE X a (tD X.K Tb W f)) (hg : Gl X "isinstance" := by rfl) (hgy : Gl X "int" := by rfl) (he : starEach [a, .Name "int" py] X.env = (false, eval a X.env) :: starEach [.Name "int" py] X.env := by rfl) (he2 : starEach [.Name "int" py] X.env = (false, eval (.Name "int" py) X.env) :: starEach [] X.env := by rfl) (hpl : (backTo pos (starEach [.Name "int" py] X.env)).any (·.1) = false := by rfl) :
    PE X (.Call (.Name "isinstance" p) [a, .Name "int" py] [] pos) (tD X.K Tb W (dOne (oIsi "int") f)) := fd_isi ha hg B.isinstance hgy B.int boot_int (by decide) (by decide) he he2 hpl
theorem e_isBool (B : Bi X.mg) {py : Pos} (ha : PE X a (tD X.K Tb W f)) (hg : Gl X "isinstance" := by rfl) (hgy : Gl X "bool" := by rfl) (he : starEach [a, .Name "bool" py] X.env = (false, eval a X.env) :: starEach [.Name "bool" py] X.env := by rfl) (he2 : starEach [.Name "bool" py] X.env = (false, eval (.Name "bool" py) X.env) :: starEach [] X.env := by rfl) (hpl : (backTo pos (starEach [.Name "bool" py] X.env)).any (·.1) = false := by rfl) :
    PE X (.Call (.Name "isinstance" p) [a, .Name "bool" py] [] pos) (tD X.K Tb W (dOne (oIsi "bool") f)) := fd_isi ha hg B.isinstance hgy B.bool boot_bool (by decide) (by decide) he he2 hpl
theorem e_isTuple (B : Bi X.mg) {py : Pos} (ha : PE X a (tD X.K Tb W f)) (hg : Gl X "isinstance" := by rfl) (hgy : Gl X "tuple" := by rfl) (he : starEach [a, .Name "tuple" py] X.env = (false, eval a X.env) :: starEach [.Name "tuple" py] X.env := by rfl) (he2 : starEach [.Name "tuple" py] X.env = (false, eval (.Name "tuple" py) X.env) :: starEach [] X.env := by rfl) (hpl : (backTo pos (starEach [.Name "tuple" py] X.env)).any (·.1) = false := by rfl) :
    PE X (.Call (.Name "isinstance" p) [a, .Name "tuple" py] [] pos) (tD X.K Tb W (dOne (oIsi "tuple") f)) := fd_isi ha hg B.isinstance hgy B.tuple boot_tuple (by decide) (by decide) he he2 hpl
end
def FnD (P : Program) (w : World) (K : PySem.W.Frag) (mg : Str → Option Value) (base : Heap) (Tb : List Addr) (x : Str) (k : Nat) (m : List PyData → R PyData) : Prop :=
  ∃ (f : Addr) (fd : FuncData) (ps : List Str), FnOk P w K mg base (L2N.CX P w) k f fd ps (spD K Tb m) ∧ mg x = some (.ref f) ∧ PySem.W.keepIn K (.ref f) = true ∧ Binds K fd ps []
section
variable {X : Cx} {Tb : List Addr} {W : WX} {k j : Nat} {m : List PyData → R PyData} {x : Str} {p pos : Pos} {e : Expr} {es : List Expr} {gl : DnL}
theorem e_call (F : FnD X.prog X.w X.K X.mg X.base Tb x k m) (hx : ∀ σ, PassesAt (L2N.CX X.prog X.w) X σ (L2.WE W σ)) (hr : Room j X.A) (ha : PA X (e :: es) (tDs X.K Tb W gl)) (hj : k ≤ j := by decide) (hg : Gl X x := by rfl)
    (hdb : (x == ("__debug__" : Str)) = false := by decide) (he : starEach (e :: es) X.env = (false, eval e X.env) :: starEach es X.env := by rfl) (hpl : (backTo pos (starEach es X.env)).any (·.1) = false := by rfl) :
    PE X (.Call (.Name x p) (e :: es) [] pos) (tD X.K Tb W (dArg m gl)) := by
  obtain ⟨f, fd, ps, h, g, kp, b⟩ := F
  exact fd_call h (hr.mono hj) hg g kp b hx ha hdb he hpl
end
end PD
set_option Elab.async false
set_option linter.all false
set_option maxRecDepth 100000
set_option maxHeartbeats 1000000
namespace PD
open PySem PySem.Spec PyProof.Rows L2
theorem cx_no {l : PySem.W.OpenLaw} : ∀ (w : World) (H : Hp) (s : Shared) (e : Value) (s' : Shared), L2N.CX l.prog w [] H s (fun _ _ _ => False) e s' → False := fun _ _ _ _ _ h => by
  obtain ⟨_, _, _, _, _, _, _, _, _, _, _, _, z⟩ := h
  exact z
theorem hide0 (H : Hp) : hide [] H = H := by funext b; unfold hide; rw [if_neg (by simp)]
theorem rp_ints {K : PySem.W.Frag} {G : Hp} : ∀ ns : List Int, RpAll K G (ns.map V.int) (ns.map PyData.int)
  | [] => .nil
  | n :: r => .cons (.int n) (rp_ints r)
theorem spD_law0 {K : PySem.W.Frag} {m : List PyData → R PyData} (hm : ∀ ns : List Int, ns.length ≤ 63 → m [.list (ns.map .int)] = .ok (.bool true)) {H : Hp} {a : Addr} {ns : List Int} (hl : ns.length ≤ 63) (hS : SqL K H a (ns.map V.int)) :
    spD K [] m [.ref a] H (fun v _ => v = .bl true) fun _ _ _ => False := by
  refine ⟨[], [.list (ns.map .int)], fun b m => by simp at m, fun P m => by simp at m, .cons (.lst (by rw [hide0]; exact hS) ?_ (rp_ints ns)) .nil, ?_⟩
  · rw [List.length_map, sizeLine_eq]; omega
  · rw [hm ns hl]
    intro v H' e r
    have r : Rp K (hide [] H') v (.bool true) := r
    cases r
    rfl
end PD
set_option Elab.async false
set_option linter.all false
set_option maxRecDepth 100000
set_option maxHeartbeats 1000000
namespace PD
open PySem PySem.Spec PyProof.Rows L2
end PD
set_option Elab.async false
set_option linter.all false
set_option maxRecDepth 100000
set_option maxHeartbeats 1000000
namespace PD
open PySem PySem.Spec PyProof.Rows L2
section
variable {X : Cx} {pins : List (Addr × Obj)} {σ : L2.St} {H : Hp} {s : Shared}
theorem itemsAre_of {P : Program} {w : World} : ∀ {k : List Int} {its : List Value}, Vals (k.map V.int) its → ItemsAre (intKind P w) k its
  | [], _, h => by cases h; exact .nil
  | i :: k, _, h => by
    cases h with
    | cons r t =>
      obtain ⟨u, rfl⟩ := r
      exact .cons (by show Value.isInt i (.int i u) = true; simp [Value.isInt]) (itemsAre_of t)
theorem key_is (I : Inv X pins σ H s) {b : Addr} {k : List Int} (h : SqT X.K H b (k.map V.int)) : (ikt X.prog X.w).is s.heap k b := by
  obtain ⟨its, rv, ⟨o, e, c, n, d⟩, _⟩ := I.tuple h
  exact ⟨o, its.toArray, n, e, c, d, itemsAre_of rv⟩
abbrev kvT (xs : List (List Int × Addr)) : List (List Int × Addr × Value) := xs.map fun x => (x.1, x.2, .bool true)
theorem dct_at (I : Inv X pins σ H s) {a : Addr} {ep : Nat} {xs : List (List Int × Addr)} (h : H a = some (dctO a ep xs)) (hk : ∀ x ∈ xs, SqT X.K H x.2 (x.1.map V.int)) : (a == sysModules) = false ∧ xs.length ≤ sizeLine ∧ s.heap.DictOfH (ikt X.prog X.w) a (kvT xs) := by
  obtain ⟨⟨h1, h2, h3, o, es, e1, e2, e3, e4⟩, _, _⟩ := I.hok a _ h
  refine ⟨h1, h2, o, es, ep, e1, e2, e3, ?_, fun x hx => ?_, ?_⟩
  · rw [e4 X.prog X.w, List.map_map]; rfl
  · obtain ⟨y, hy, rfl⟩ := List.mem_map.mp hx
    exact key_is I (hk y hy)
  · rw [List.map_map]; exact h3
theorem dct_ok {P : Program} {w : World} {H' : Hp} {h : Heap} {a : Addr} {xs : List (List Int × Addr)} (h1 : (a == sysModules) = false) (h2 : xs.length ≤ sizeLine) (d : h.DictOfH (ikt P w) a (kvT xs)) : ∃ ep, ObjOk P w H' h a (dctO a ep xs) := by
  obtain ⟨o, es, ep, e1, e2, e3, e4, _, e6⟩ := d
  rw [List.map_map] at e6 e4
  refine ⟨ep, ⟨h1, h2, e6, o, es, e1, e2, e3, fun P' w' => e4⟩, ⟨o, e1⟩, fun k1 k2 p st => ?_⟩
  obtain ⟨h1, h2, h3, o, es, e1, e2, e3, e4⟩ := p
  exact ⟨h1, h2, h3, o, es, st o e1, e2, e3, e4⟩
theorem dct_new {P : Program} {w : World} {H' : Hp} (h : Heap) (hb : sysModules < h.objs.size) : ObjOk P w H' (h.push { cls := .type "dict", data := .dict #[] }) h.objs.size (dctO h.objs.size 0 []) := by
  have e : (h.push { cls := .type "dict", data := .dict #[] }).get? h.objs.size = some { cls := .type "dict", data := .dict #[] } := Heap.get?_push_size _ rfl
  refine ⟨⟨beq_eq_false_iff_ne.mpr (Nat.ne_of_gt hb), Nat.zero_le _, List.nodup_nil, _, #[], e, ⟨rfl, rfl, rfl⟩, rfl, fun _ _ => rfl⟩, ⟨_, e⟩, fun k1 k2 p st => ?_⟩
  obtain ⟨h1, h2, h3, o, es, e1, e2, e3, e4⟩ := p
  exact ⟨h1, h2, h3, o, es, st o e1, e2, e3, e4⟩
theorem dct_any {P : Program} {w : World} {H H' : Hp} {h : Heap} {a : Addr} {ep : Nat} {xs : List (List Int × Addr)} (o : ObjOk P w H h a (dctO a ep xs)) : ObjOk P w H' h a (dctO a ep xs) := o
def putT (xs : List (List Int × Addr)) (k : List Int) (b : Addr) : List (List Int × Addr) := if k ∈ xs.map (·.1) then xs else xs ++ [(k, b)]
theorem atKey_kvT (xs : List (List Int × Addr)) (k : List Int) : (atKey (kvT xs) k).isSome = decide (k ∈ xs.map (·.1)) := by
  unfold atKey
  induction xs with
  | nil => rfl
  | cons x r ih =>
    rw [show kvT (x :: r) = (x.1, x.2, .bool true) :: kvT r from rfl, List.find?_cons]
    by_cases e : x.1 = k
    · subst e; simp
    · have e' : ¬ k = x.1 := fun z => e z.symm
      simp only [e, decide_false, List.map_cons, List.mem_cons, e', false_or]
      exact ih
theorem stored_kvT (xs : List (List Int × Addr)) (k : List Int) (b : Addr) : storedH (kvT xs) k b (.bool true) = kvT (putT xs k b) := by
  unfold storedH putT
  by_cases h : k ∈ xs.map (·.1)
  · rw [if_pos (by rw [atKey_kvT]; exact decide_eq_true h), if_pos h]
    unfold kvT
    rw [List.map_map]
    refine List.map_congr_left fun x _ => ?_
    show putAt k (.bool true) (x.1, x.2, .bool true) = _
    unfold putAt
    split <;> rfl
  · rw [if_neg (by rw [atKey_kvT]; simpa using h), if_neg h]
    unfold kvT
    rw [List.map_append]; rfl
theorem putT_len (xs : List (List Int × Addr)) (k : List Int) (b : Addr) : (putT xs k b).length ≤ xs.length + 1 := by
  unfold putT; split <;> simp
theorem putT_mem {xs : List (List Int × Addr)} {k : List Int} {b : Addr} {x : List Int × Addr} (h : x ∈ putT xs k b) : x ∈ xs ∨ x = (k, b) := by
  unfold putT at h
  split at h
  · exact .inl h
  · rcases List.mem_append.mp h with h | h
    · exact .inl h
    · exact .inr (List.mem_singleton.mp h)
/-- d[k] = True -/
theorem store_dct {E : Value → Shared → Prop} {D b : Addr} {ep : Nat} {xs : List (List Int × Addr)} {k : List Int} {Q : Unit → Shared → Prop} (hu : X.A.units < cLine) (I : Inv X pins σ H s) (hD : H D = some (dctO D ep xs)) (hk : ∀ x ∈ xs, SqT X.K H x.2 (x.1.map V.int)) (hz : xs.length < sizeLine)
    (hb : SqT X.K H b (k.map V.int)) (h : ∀ ep' s', Inv X pins σ (upd H D (dctO D ep' (putT xs k b))) s' → Q () s') : wpAny (model X.prog X.w) X.A (dictSet D (.ref b) (.bool true)) Q E s := by
  obtain ⟨h1, h2, d⟩ := dct_at I hD hk
  refine wpAny_dictSet_heap (hsz := by rw [List.length_map]; exact h2) hu (key_is I hb) d fun h' d' hs => ?_
  rw [stored_kvT] at d'
  have he : ∃ q, h'.get? D = some q := let ⟨q, _, _, hq, _⟩ := d'; ⟨q, hq⟩
  obtain ⟨ep', ok⟩ := dct_ok (P := X.prog) (w := X.w) (H' := H) h1 (by have := putT_len xs k b; omega) d'
  exact h ep' _ (I.write (x := D) (e := D) (by rw [hD]; trivial) (.inl rfl) (fun b q hb z => (hs.2 b hb).trans z) he (dct_any ok))
/-- k in d -/
def rInT (K : PySem.W.Frag) (neg : Bool) : R2 := fun x y H Q => ∃ a b k ep xs, x = .ref b ∧ y = .ref a ∧ SqT K H b (k.map V.int) ∧ H a = some (dctO a ep xs) ∧ (∀ x ∈ xs, SqT K H x.2 (x.1.map V.int)) ∧ Q (.bl (if neg then !decide (k ∈ xs.map (·.1)) else decide (k ∈ xs.map (·.1)))) H
theorem op_inT (hu : X.A.units + 65 < cLine) : OpR X (compareOp .In) (rInT X.K false) := by
  intro pins s σ H x y v u Q I rx ry h
  obtain ⟨a, b, k, ep, xs, rfl, rfl, hb, ha, hk, q⟩ := h
  cases rx; cases ry
  obtain ⟨h1, h2, d⟩ := dct_at I ha hk
  refine wpAny_in_heap (show X.A.units + 1 < cLine by omega) (key_is I hb) h1 d ?_
  rw [atKey_kvT]
  exact ⟨.bl _, H, I.tok _, rfl, q⟩
theorem op_notInT (hu : X.A.units + 65 < cLine) : OpR X (compareOp .NotIn) (rInT X.K true) := by
  intro pins s σ H x y v u Q I rx ry h
  obtain ⟨a, b, k, ep, xs, rfl, rfl, hb, ha, hk, q⟩ := h
  cases rx; cases ry
  obtain ⟨h1, h2, d⟩ := dct_at I ha hk
  refine wpAny_notIn_heap (show X.A.units + 1 < cLine by omega) (key_is I hb) h1 d ?_
  rw [atKey_kvT]
  exact ⟨.bl _, H, I.tok _, rfl, q⟩
end
def asTu : PyData → Option (List Int)
  | .tuple l => asInts l
  | _ => none
def keysOf (kvs : List (PyData × PyData)) : List (Option (List Int)) := kvs.map fun p => asTu p.1
/-- a dict of another kind (PD1: dkD, obD) -/
def marked : List (PyData × PyData) → Bool
  | (.bool _, _) :: _ => true
  | (.none, _) :: _ => true
  | _ => false
def oInT (d e : PyData) : R PyData := match e with
  | .dict kvs => (match asTu d with | some k => if marked kvs = true then .bad else .ok (.bool (decide (some k ∈ keysOf kvs))) | none => .bad)
  | _ => .bad
def oNotInT (d e : PyData) : R PyData := match e with
  | .dict kvs => (match asTu d with | some k => if marked kvs = true then .bad else .ok (.bool (!decide (some k ∈ keysOf kvs))) | none => .bad)
  | _ => .bad
theorem marked_dct (xs : List (List Int × Addr)) : marked (xs.map dctE) = false := by cases xs <;> rfl
theorem asInts_eq : ∀ {l : List PyData} {k : List Int}, asInts l = some k → l = k.map .int
  | [], _, h => by cases h; rfl
  | .int i :: r, k, h => by
    unfold asInts at h
    cases e : asInts r with
    | none => rw [e] at h; cases h
    | some k' => rw [e] at h; cases h; rw [List.map_cons, asInts_eq e]
  | .none :: _, _, h => by cases h
  | .bool _ :: _, _, h => by cases h
  | .str _ :: _, _, h => by cases h
  | .list _ :: _, _, h => by cases h
  | .tuple _ :: _, _, h => by cases h
  | .dict _ :: _, _, h => by cases h
theorem asInts_ints : ∀ l : List Int, asInts (l.map .int) = some l
  | [] => rfl
  | x :: r => by rw [List.map_cons, asInts, asInts_ints r]; rfl
theorem keysOf_dct (xs : List (List Int × Addr)) : keysOf (xs.map dctE) = xs.map fun x => some x.1 := by
  unfold keysOf
  rw [List.map_map]
  exact List.map_congr_left fun x _ => asInts_ints x.1
theorem rp_ints_inv {K : PySem.W.Frag} {G : Hp} : ∀ {k : List Int} {vs : List V}, RpAll K G vs (k.map .int) → vs = k.map V.int
  | [], _, h => by cases h; rfl
  | i :: k, _, h => by
    cases h with
    | cons r t => cases r; rw [List.map_cons, rp_ints_inv t]
theorem asTu_rp {K : PySem.W.Frag} {G : Hp} {v : V} {d : PyData} {k : List Int} (r : Rp K G v d) (h : asTu d = some k) : ∃ b, v = .ref b ∧ SqT K G b (k.map V.int) := by
  unfold asTu at h
  split at h
  · cases r with
    | tup a z b =>
      have e := asInts_eq h
      subst e
      rw [rp_ints_inv b] at a
      exact ⟨_, rfl, a⟩
  · cases h
theorem mem_some {α : Type} [DecidableEq α] (l : List (List Int × α)) (k : List Int) : decide (some k ∈ l.map fun x => some x.1) = decide (k ∈ l.map (·.1)) := by
  have : (some k ∈ l.map fun x => some x.1) ↔ k ∈ l.map (·.1) := by simp
  by_cases h : k ∈ l.map (·.1)
  · rw [decide_eq_true h, decide_eq_true (this.mpr h)]
  · rw [decide_eq_false h, decide_eq_false fun z => h (this.mp z)]
section
variable {K : PySem.W.Frag}
theorem ok_inT : Ok2 K (rInT K false) oInT := by
  intro O H Wx x y d e Q al hx hy h
  unfold oInT at h
  split at h
  · split at h
    · rename_i k hk
      obtain ⟨b, rfl, hb⟩ := asTu_rp hx hk
      cases hy with
      | dk _ _ _ => exact h.elim
      | ins _ _ _ => exact h.elim
      | dct a c =>
        rw [if_neg (by rw [marked_dct]; simp), keysOf_dct, mem_some] at h
        exact ⟨_, b, k, _, _, rfl, rfl, Sub.unhide.sqT hb, (hide_some a).2, fun x hx => Sub.unhide.sqT (c x hx), Post.here h (.bl _)⟩
    · exact h.elim
  · exact h.elim
theorem ok_notInT : Ok2 K (rInT K true) oNotInT := by
  intro O H Wx x y d e Q al hx hy h
  unfold oNotInT at h
  split at h
  · split at h
    · rename_i k hk
      obtain ⟨b, rfl, hb⟩ := asTu_rp hx hk
      cases hy with
      | dk _ _ _ => exact h.elim
      | ins _ _ _ => exact h.elim
      | dct a c =>
        rw [if_neg (by rw [marked_dct]; simp), keysOf_dct, mem_some] at h
        exact ⟨_, b, k, _, _, rfl, rfl, Sub.unhide.sqT hb, (hide_some a).2, fun x hx => Sub.unhide.sqT (c x hx), Post.here h (.bl _)⟩
    · exact h.elim
  · exact h.elim
end
section
variable {X : Cx} {Tb : List Addr} {W : WX} {a b : Expr} {f g : Dn} {pos : Pos} {k : Nat}
theorem e_inT (hr : Room k X.A) (ha : PE X a (tD X.K Tb W f)) (hb : PE X b (tD X.K Tb W g)) (hm : behindInMarks .In b = false := by rfl) : PE X (.Compare a [.In] [b] pos) (tD X.K Tb W (dTwo oInT f g)) := fd_cmp (op_inT hr.u65) ok_inT ha hb hm
theorem t_notinT (hr : Room k X.A) (ha : PE X a (tD X.K Tb W f)) (hb : PE X b (tD X.K Tb W g)) (hm : behindInMarks .NotIn b = false := by rfl) : PT X (.Compare a [.NotIn] [b] pos) (tDT X.K Tb W (dAsB (dTwo oNotInT f g))) := ft_cmp (op_notInT hr.u65) ok_notInT ha hb hm
end
end PD
set_option Elab.async false
set_option linter.all false
set_option maxRecDepth 100000
set_option maxHeartbeats 1000000
namespace PD
open PySem PySem.Spec PyProof.Rows L2
section
variable (X : Cx) (s : Shared) (scope : Scope)
/-- the block's own environment -/
abbrev envBlk : Env := compEnvC scope (cellsFrom (s.heap.objs.size + 1) scope.names (cloFrom X.env.cells scope.names [])) s.heap.objs.size X.env
/-- the block's context -/
abbrev inBlk (H : Hp) (fp : List Addr) : Cx := X.blk s H scope (envBlk X s scope) fp
end
section
variable {X : Cx} {pins : List (Addr × Obj)} {σ : L2.St} {vs : List Nat} {s0 : Shared} {H0 : Hp} {scope : Scope} {fp : List Addr} {tn : Nat → Heap → Prop} {J : It} {tg : Expr} {it : Addr}
/-- a turn is about to start -/
structure AtTurn (X : Cx) (s0 : Shared) (H0 : Hp) (scope : Scope) (fp : List Addr) (tn : Nat → Heap → Prop) (τ : L2.St) (i : Nat) (H : Hp) (s : Shared) : Prop where
  inv : Inv (inBlk X s0 scope H0 fp) [] τ H s
  own : tn i s.heap
  hid : ∀ b ∈ fp, H b = none
theorem AtTurn.free {τ : L2.St} {i : Nat} {H : Hp} {s : Shared} (a : AtTurn X s0 H0 scope fp tn τ i H s) {b : Addr} (hb : b ∈ fp) : FpOk (inBlk X s0 scope H0 fp) [] H b := by
  have w := a.inv.ok.exf b hb
  refine ⟨a.hid b hb, w.1, a.inv.ok.exfs b hb, Or.inl hb, fun x c e => w.2 x c e, ?_⟩
  intro p hp
  simp [Cx.blk] at hp
theorem AtTurn.next {τ σ1 : L2.St} {i : Nat} {H1 : Hp} {s1 s2 : Shared} (T : Turn X.prog X.w X.K tg J fp it tn) (e : L2.wipe σ1 vs = L2.wipe σ vs) (t1 : tn i s1.heap)
    (I : Inv (inBlk X s0 scope H0 fp) ([] ++ pinsAt fp s1.heap) σ1 H1 s2) : AtTurn X s0 H0 scope fp tn (L2.wipe σ vs) i H1 s2 := by
  have same : ∀ b ∈ fp, ∀ o, s1.heap.get? b = some o → s2.heap.get? b = some o ∧ H1 b = none := by
    intro b hb o hbo
    have mem : (b, o) ∈ (inBlk X s0 scope H0 fp).pn ++ ([] ++ pinsAt fp s1.heap) := by
      rw [List.nil_append]
      exact List.mem_append_right _ (mem_pinsAt hb hbo)
    exact ⟨(I.pin _ mem).1, (I.pin _ mem).2.1⟩
  have wide : (L2.wipe σ vs).length = σ1.length := e ▸ wipe_length ..
  constructor
  · refine I.unpinned.weak wide ?_
    intro j v hj
    exact (wipe_some (e ▸ hj)).1
  · exact T.keep _ _ _ t1 fun b hb o hbo => (same b hb o hbo).1
  · intro b hb
    obtain ⟨o, hbo, -⟩ := T.obj _ _ t1 b hb
    exact (same b hb o hbo).2
/-- the def around the block, behind it -/
theorem AtTurn.leave {τ : L2.St} {H1 : Hp} {s1 : Shared} (I0 : Inv X pins σ H0 s0) (f0 : ∀ b ∈ fp, FpOk X pins H0 b) (I1 : Inv (inBlk X s0 scope H0 fp) [] τ H1 s1) :
    Inv X pins σ H1 s1 ∧ FpOk X pins H1 s0.heap.objs.size ∧ ∃ m, s1.heap.Ns s0.heap.objs.size m := by
  have fr : H1 s0.heap.objs.size = none := I1.free
  obtain ⟨m, hm, -⟩ := I1.loc
  refine ⟨I0.call' (ch := fp) I1.os I1.base I1.hok I1.bare ?_, I0.fpOk (Nat.le_refl _) fr, m, hm⟩
  intro b hb
  obtain ⟨-, b1, -, b3, b4, b5⟩ := f0 b hb
  exact ⟨b3, b1, b4, b5⟩
/-- what the rule asks of a turn -/
def keyTurn (K : PySem.W.Frag) (σ : L2.St) (vs : List Nat) (g : TG) (tt : TT) (tk : TE) (D : Addr) (Nx : Hp → Prop) (x : V) (H : Hp) : Prop :=
  g x (L2.wipe σ vs) H fun σ2 H2 => L2.wipe σ2 vs = L2.wipe σ vs ∧ tt σ2 H2 fun b H3 =>
    if b = true then tk σ2 H3 fun y H4 => ∃ ep xs p k, y = .ref p ∧ H4 D = some (dctO D ep xs) ∧ (∀ x ∈ xs, SqT K H4 x.2 (x.1.map V.int)) ∧ xs.length < sizeLine ∧ SqT K H4 p (k.map V.int) ∧ ∀ ep', Nx (upd H4 D (dctO D ep' (putT xs k p))) else Nx H3
def tDcT (K : PySem.W.Frag) (wi : TI) (g : TG) (tt : TT) (tk : TE) (vs : List Nat) : TE := fun σ H Q => wi σ H fun J H1 => ∀ D, H1 D = none → ∃ W : Nat → Nat → Hp → Prop, (∃ m, W 0 m (upd H1 D (dctO D 0 []))) ∧ ∀ i m H, W i m H →
  (J.stop i H ∧ Q (.ref D) H) ∨ (J.go i H ∧ ∃ Nx : Hp → Prop, (∀ H', Nx H' → ∃ m', m' < m ∧ W (i + 1) m' H') ∧ ∀ x H', J.yld i H x H' → keyTurn K σ vs g tt tk D Nx x H')
/-- all turns, from the first one on -/
theorem keyLoop {kx iter : Expr} {ifs : List Expr} {pos : Pos} {g : TG} {tt : TT} {tk : TE} {tpos : Pos} {tj : Nat} {D : Addr} {Q : VK} {R : Result → Shared → Prop} {W : Nat → Nat → Hp → Prop} {m0 : Nat}
    (hu : X.A.units < cLine) (hc : X.calm = true) (T : Turn X.prog X.w X.K tg J fp it tn)
    (pg : PG (inBlk X s0 scope H0 fp) tg g) (pt : PTs (inBlk X s0 scope H0 fp) ifs tt) (pk : PE (inBlk X s0 scope H0 fp) kx tk)
    (turn : ∀ i m H, W i m H → (J.stop i H ∧ Q (.ref D) H) ∨ (J.go i H ∧ ∃ Nx : Hp → Prop, (∀ H', Nx H' → ∃ m', m' < m ∧ W (i + 1) m' H') ∧ ∀ x H', J.yld i H x H' → keyTurn X.K σ vs g tt tk D Nx x H'))
    (over : ∀ H s, Inv (inBlk X s0 scope H0 fp) [] (L2.wipe σ vs) H s → Q (.ref D) H → R (.ok .next) s)
    {s : Shared} {H : Hp} (w0 : W 0 m0 H) (a0 : AtTurn X s0 H0 scope fp tn (L2.wipe σ vs) 0 H s) :
    codeAny (model X.prog X.w) X.A (.compLoop (.DictComp kx (.Constant (.bool true) tj tpos) [⟨tg, iter, ifs, 0⟩] scope pos) 0 (.ref it) (.ref D) (envBlk X s0 scope)) R s := by
  refine compLoop_anyD (fun m s => ∃ i H, AtTurn X s0 H0 scope fp tn (L2.wipe σ vs) i H s ∧ W i m H) ?_ m0 ⟨0, H, a0, w0⟩
  intro m s1 ⟨i, H1, a1, w1⟩
  cases turn i m H1 w1 with
  | inl z =>
    refine thnF (T.done (inBlk X s0 scope H0 fp) rfl rfl rfl hc i [] s1 _ H1 (fun _ _ => False) a1.inv (fun b => a1.free) a1.own z.1) ?_
    rintro r s2 ⟨rfl, I2⟩
    exact over H1 s2 I2 z.2
  | inr z =>
    obtain ⟨go, Nx, less, each⟩ := z
    refine thnF (T.item (inBlk X s0 scope H0 fp) rfl rfl rfl hc i [] s1 _ H1 (fun _ _ => False) a1.inv (fun b => a1.free) a1.own go) ?_
    rintro r s2 ⟨u, rfl, hu2⟩
    refine thnF hu2 ?_
    rintro _ s3 ⟨x, H3, I3, rx, hx, t3, n3⟩
    have a3 : AtTurn X s0 H0 scope fp tn (L2.wipe σ vs) (i + 1) H3 s3 := ⟨I3, t3, n3⟩
    have done : ∀ {σ4 : L2.St} {s5 : Shared} {H5 : Hp}, L2.wipe σ4 vs = L2.wipe σ vs → Inv (inBlk X s0 scope H0 fp) ([] ++ pinsAt fp s3.heap) σ4 H5 s5 → Nx H5 →
        ∃ m', m' < m ∧ ∃ i H, AtTurn X s0 H0 scope fp tn (L2.wipe σ vs) i H s5 ∧ W i m' H := by
      intro σ4 s5 H5 e I5 nx
      obtain ⟨m', lt, w⟩ := less H5 nx
      exact ⟨m', lt, i + 1, H5, AtTurn.next (τ := σ) T e t3 I5, w⟩
    refine thnF (pg.run _ s3 _ H3 x u _ (I3.pinned (fun b => a3.free) (T.obj _ _ t3)) rx (each x H3 hx)) ?_
    rintro _ s4 ⟨σ4, H4, I4, e4, q4⟩
    refine thnF (pt.run _ s4 σ4 H4 _ I4 q4) ?_
    rintro b s5 ⟨H5, I5, q5⟩
    rcases b with _ | _
    · exact done e4 I5 q5
    · refine thnF (pk.run _ s5 σ4 H5 _ I5 q5) ?_
      rintro kv s6 ⟨_, H6, I6, rk, ep, xs, p, k, rfl, hD, hks, hsz, hp, nx⟩
      cases rk
      exact Constant_bool (store_dct (X := inBlk X s0 scope H0 fp) hu I6 hD hks hsz hp fun ep7 s7 I7 => done e4 I7 (nx ep7))
end
section
variable {X : Cx} {kx tg iter : Expr} {ifs : List Expr} {scope : Scope} {own : List (Str × Nat)} {pos : Pos} {wi : TI} {g : TG} {tt : TT} {tk : TE} {tpos : Pos} {tj : Nat}
/-- the parts of such a comprehension, read -/
structure KeyParts (X : Cx) (kx tg iter : Expr) (ifs : List Expr) (scope : Scope) (own : List (Str × Nat)) (wi : TI) (g : TG) (tt : TT) (tk : TE) : Prop where
  line : X.A.units < cLine
  calm : X.calm = true
  nd : X.N.Nodup
  walk : PI X tg iter wi
  blk : BlkOk X.N X.env.scope scope own
  tgt : ∀ (s : Shared) (H : Hp) (fp : List Addr), PG (inBlk X s scope H fp) tg g
  test : ∀ (s : Shared) (H : Hp) (fp : List Addr), PTs (inBlk X s scope H fp) ifs tt
  key : ∀ (s : Shared) (H : Hp) (fp : List Addr), PE (inBlk X s scope H fp) kx tk
  plain : ∀ x, foldedSetIterable iter X.env x = pure x
theorem KeyParts.run (P : KeyParts X kx tg iter ifs scope own wi g tt tk) {pins : List (Addr × Obj)} {s : Shared} {σ : L2.St} {H : Hp} {Q : VK} {pos' : Pos} {use : Option (Value → Sem Unit)} {Qf : Value → Shared → Prop}
    (I : Inv X pins σ H s) (h : tDcT X.K wi g tt tk (own.map (·.2)) σ H Q)
    (hQ : ∀ D C s' m H', Inv X pins σ H' s' → Q (.ref D) H' → s'.heap.Ns C m → FpOk X pins H' C → compPost (model X.prog X.w) X.A X.xe use Qf (.ref D) C (.ok .next) s') :
    wpAny (model X.prog X.w) X.A (comprehension (.DictComp kx (.Constant (.bool true) tj tpos) [⟨tg, iter, ifs, 0⟩] scope pos) scope X.env pos' newDict false (eval iter X.env) use) Qf X.xe s := by
  have cells : ∀ y ∈ scope.names, y.2 = .free → ∃ c, X.env.cells.lookup y.1 = some c := by
    intro y hy e
    cases P.blk.free y hy e with
    | inl z => exact I.ok.has _ (.inl z)
    | inr z => exact I.ok.has _ (.inr z)
  have locs : ∀ y ∈ scope.names, y.2 = .local → scope.names.lookup y.1 = some .local := fun y hy e => (P.blk.uniq y hy).trans (congrArg some e)
  refine wpAny_comprehension_free (use := use) rfl P.plain (closure_ok cells) P.blk.kind locs ?_
  refine thn (P.walk.run pins s σ H _ I h) ?_
  intro x s1 h1
  refine thn h1 ?_
  rintro _ s2 ⟨it, fp, tn, J, H2, rfl, I2, T, t2, f2, h2⟩
  -- the dict
  refine wpAny_newObj_type ?_
  obtain ⟨W, ⟨m0, w0⟩, turn⟩ := h2 s2.heap.objs.size (I2.hok.fresh (Nat.le_refl _))
  have I3 : Inv X pins σ (upd H2 s2.heap.objs.size (dctO s2.heap.objs.size 0 [])) { s2 with heap := s2.heap.push { cls := .type "dict", data := .dict #[] } } :=
    I2.laid (t' := s2.toks) (fun b o e => Heap.get?_push_of_some _ e) (Nat.le_refl _)
      (dct_new s2.heap I2.big)
  have f3 : ∀ b ∈ fp, FpOk X pins (upd H2 s2.heap.objs.size (dctO s2.heap.objs.size 0 [])) b ∧ b < (s2.heap.push { cls := .type "dict", data := .dict #[] }).objs.size := by
    intro b hb
    obtain ⟨o, hbo, -⟩ := T.obj _ _ t2 b hb
    have lt : b < s2.heap.objs.size := Heap.lt_size hbo
    refine ⟨⟨(upd_ne (Nat.ne_of_lt lt)).trans (f2 b hb).1, (f2 b hb).2⟩, ?_⟩
    rw [Heap.size_push]
    exact Nat.lt_succ_of_lt lt
  have t3 : tn 0 (s2.heap.push { cls := .type "dict", data := .dict #[] }) := T.keep _ _ _ t2 fun b _ o e => Heap.get?_push_of_some _ e
  -- the block
  refine newEnv_comp ?_
  have t4 := T.keep _ _ (pushCells (((s2.heap.push { cls := .type "dict", data := .dict #[] })).push { cls := .type "dict", data := .dict #[] }) scope.names) t3 fun b _ o e => pushCells_keeps _ _ _ _ (Heap.get?_push_of_some _ e)
  have loop := keyLoop (σ := σ) (vs := own.map (·.2)) (pos := pos) (tpos := tpos) (tj := tj) (R := compPost (model X.prog X.w) X.A X.xe use Qf (.ref s2.heap.objs.size) (s2.heap.push { cls := .type "dict", data := .dict #[] }).objs.size) (iter := iter)
    P.line P.calm T (P.tgt _ _ fp) (P.test _ _ fp) (P.key _ _ fp) turn
    (fun H5 s5 I5 q => by
      obtain ⟨I6, f6, m, hm⟩ := AtTurn.leave I3 (fun b hb => (f3 b hb).1) I5
      exact hQ _ _ s5 m H5 I6 q hm f6)
    w0 ⟨block_start I3 P.blk P.nd f3, t4, fun b hb => (f3 b hb).1.1⟩
  exact codeAny_compStart_dict loop (T.self X.A 0 _ _ _ t4 loop)
theorem KeyParts.of (hu : X.A.units < cLine) (hc : X.calm = true) (hN : X.N.Nodup) (hi : PI X tg iter wi) (ok : BlkOk X.N X.env.scope scope own)
    (hg : ∀ (s : Shared) (H : Hp) (C : Addr) (cl : List (Str × Addr)) (fp : List Addr), PG (X.blk s H scope (compEnvC scope cl C X.env) fp) tg g) (ht : ∀ (s : Shared) (H : Hp) (C : Addr) (cl : List (Str × Addr)) (fp : List Addr), PTs (X.blk s H scope (compEnvC scope cl C X.env) fp) ifs tt)
    (hk : ∀ (s : Shared) (H : Hp) (C : Addr) (cl : List (Str × Addr)) (fp : List Addr), PE (X.blk s H scope (compEnvC scope cl C X.env) fp) kx tk)
    (hs : ∀ x, foldedSetIterable iter X.env x = pure x) : KeyParts X kx tg iter ifs scope own wi g tt tk :=
  ⟨hu, hc, hN, hi, ok, fun s H fp => hg s H _ _ fp, fun s H fp => ht s H _ _ fp, fun s H fp => hk s H _ _ fp, hs⟩
/-- the block's frame is dropped -/
theorem FpOk_drop {pins : List (Addr × Obj)} {σ : L2.St} {H : Hp} {s : Shared} {C : Addr} (f : FpOk X pins H C) (I : Inv X pins σ H s) {h' : Heap} (k : ∀ b o, b ≠ C → s.heap.get? b = some o → h'.get? b = some o) : Inv X pins σ H { s with heap := h' } :=
  I.turned (t' := s.toks) k f.1 f.2.1 f.2.2.2.1 f.2.2.2.2.1 f.2.2.2.2.2
end
end PD
set_option Elab.async false
set_option linter.all false
set_option maxRecDepth 100000
set_option maxHeartbeats 1000000
namespace PD
open PySem PySem.Spec PyProof.Rows L2
def dcGo (t : Tg) (ft : DnB) (fk : Dn) (ρ : Rho) : List PyData → List (List Int) → R (List (List Int))
  | [], acc => .ok acc
  | d :: ds, acc => match t.set d ρ with
    | some ρ1 => nx (ft ρ1) fun b => if b = true then nx (fk ρ1) fun y => (match asTu y with
        | some k => dcGo t ft fk ρ ds (if k ∈ acc then acc else acc ++ [k])
        | none => .bad) else dcGo t ft fk ρ ds acc
    | none => .bad
def keyD (k : List Int) : PyData × PyData := (.tuple (k.map .int), .bool true)
theorem putT_keys (xs : List (List Int × Addr)) (k : List Int) (b : Addr) : (putT xs k b).map (·.1) = if k ∈ xs.map (·.1) then xs.map (·.1) else xs.map (·.1) ++ [k] := by
  unfold putT
  split
  · rfl
  · rw [List.map_append]; rfl
section
variable {K : PySem.W.Frag} {Tb : List Addr} {H0 H H1 : Hp} {O0 O : List Addr} {ρ : Rho} {σ : L2.St} {D p : Addr}
/-- an object of the ext kind that no heap of code objects alone makes true -/
def codeHeap (n : Nat) (q : Str) : Heap := { objs := Array.replicate n { cls := .none, data := .fields #[.none, .str q 0] } }
theorem codeHeap_get {n : Nat} {q : Str} {a : Addr} {o : Obj} (h : (codeHeap n q).get? a = some o) : o.data = .fields #[.none, .str q 0] := by
  unfold codeHeap Heap.get? at h
  dsimp only at h
  rw [Array.getElem?_replicate] at h
  by_cases z : a < n
  · rw [if_pos z] at h
    cases h
    rfl
  · rw [if_neg z] at h
    cases h
theorem plain_ext {φ : Heap → Prop} (h : ∀ n q, ¬ φ (codeHeap n q)) : Plain (HO.ext φ) := ⟨fun c q e => by
  unfold LamX.CodeO at e
  injection e with e
  have z := congrFun e (codeHeap (c + 1) q)
  refine h (c + 1) q (z.symm ▸ ⟨{ cls := .none, data := .fields #[.none, .str q 0] }, #[.none, .str q 0], 0, ?_, rfl, rfl⟩)
  unfold Heap.get? codeHeap
  simp, fun _ e => by cases e⟩
theorem plain_dct (a : Addr) (ep : Nat) (xs : List (List Int × Addr)) : Plain (dctO a ep xs) := plain_ext fun n q ⟨_, _, _, o, es, h1, _, h3, _⟩ => by
  rw [codeHeap_get h1] at h3
  cases h3
/-- the hidden object at D, which no slot owns, is changed; any object but a table -/
theorem St0.hidO {o o' : HO} (st : St0 K Tb H0 O0 O H σ ρ) (m : D ∈ O) (m0 : D ∉ O0) (hD : H D = some o) (po : Plain o) (pn : Plain o') (hs : ∀ (i : Nat) (s : Sl), s.Hold → ρ[i]? = some (some s) → σ[i]? ≠ some (some (.ref D))) (hxd : ∀ fs, o ≠ .xd fs := by intro _ z; cases z) : St0 K Tb H0 O0 O (upd H D o') σ ρ where
  ext := st.ext.updN (st.new D m m0) fun c q z => po.1 c q (Option.some.inj (hD.symm.trans z))
  sub := st.sub
  new := st.new
  al := fun b h => by
    by_cases hb : b = D
    · rw [hb, upd_same]; simp
    · rw [upd_ne hb]; exact st.al b h
  tab := fun P mp => by
    have hb : P ≠ D := tabG_ne (st.tab P mp) fun ps q => by rw [hD] at q; exact po.2 ps (Option.some.inj q)
    exact (st.tab P mp).mono (fun ps h => by rw [upd_ne hb]; exact h) fun c q h => by
      rw [upd_ne fun z => po.1 c q (Option.some.inj (hD.symm.trans (by rw [← z]; exact h)))]
      exact h
  pln := fun b mb nb => by
    by_cases hb : b = D
    · exact ⟨_, by rw [hb]; exact upd_same, pn⟩
    · obtain ⟨x, h, q⟩ := st.pln b mb nb
      exact ⟨x, by rw [upd_ne hb]; exact h, q⟩
  len := st.len
  slot := fun i x h => by
    obtain ⟨v, h1, h2⟩ := st.slot i x h
    refine ⟨v, h1, h2.mv (by rw [hide_upd m]; exact fun _ _ h _ => h) (fun hx p ev mp _ => ⟨mp, fun o hp _ => ?_⟩) fun dd fs h => ?_⟩
    · have hne : p ≠ D := fun e => hs i x hx h (by rw [h1, ev, e])
      rw [upd_ne hne]; exact hp
    · rw [upd_ne (fun e => by rw [e, hD] at h; exact hxd fs (Option.some.inj h))]; exact h
  inj := st.inj
end
end PD
set_option Elab.async false
set_option linter.all false
set_option maxRecDepth 100000
set_option maxHeartbeats 1000000
namespace PD
open PySem PySem.Spec PyProof.Rows L2
end PD
set_option Elab.async false
set_option linter.all false
set_option maxRecDepth 100000
set_option maxHeartbeats 1000000
namespace PD
open PySem PySem.Spec PyProof.Rows L2
/-- the reading of the turns from place i on -/
theorem lexAt_drop (ns ms : List Int) : ∀ (k i : Nat), i + k = min ns.length ms.length →
    Ob.lexAt (fun j => decide (ns.getD j 0 = ms.getD j 0)) (fun j => decide (ns.getD j 0 ≤ ms.getD j 0)) (decide (ns.length ≤ ms.length)) i k = !(HT.lexLt (ms.drop i) (ns.drop i))
  | 0, i, h => by
    rw [Ob.lexAt_zero]
    by_cases z : ns.length ≤ ms.length
    · have : ns.drop i = [] := List.drop_eq_nil_of_le (by omega)
      rw [this, decide_eq_true z]
      cases ms.drop i <;> rfl
    · have e : ms.drop i = [] := List.drop_eq_nil_of_le (by omega)
      have l : i < ns.length := by omega
      rw [e, decide_eq_false z, List.drop_eq_getElem_cons l]
      rfl
  | k + 1, i, h => by
    have l1 : i < ns.length := by omega
    have l2 : i < ms.length := by omega
    have g1 : ns.getD i 0 = ns[i] := by simp [List.getD, l1]
    have g2 : ms.getD i 0 = ms[i] := by simp [List.getD, l2]
    rw [Ob.lexAt_succ, lexAt_drop ns ms k (i + 1) (by omega), List.drop_eq_getElem_cons l1, List.drop_eq_getElem_cons l2, HT.lexLt_cons, g1, g2]
    by_cases e : ns[i] = ms[i]
    · rw [if_pos e.symm]
      simp [e]
    · rw [if_neg (Ne.symm e)]
      simp only [e, decide_false, Bool.false_eq_true, if_false]
      by_cases z : ns[i] ≤ ms[i]
      · rw [decide_eq_true z, decide_eq_false (Int.not_lt.mpr z)]
        rfl
      · rw [decide_eq_false z, decide_eq_true (Int.not_le.mp z)]
        rfl
/-- t <= u: u does not come before t -/
def leT (ns ms : List Int) : Bool := !(HT.lexLt ms ns)
theorem lexAt_all (ns ms : List Int) : Ob.lexAt (fun j => decide (ns.getD j 0 = ms.getD j 0)) (fun j => decide (ns.getD j 0 ≤ ms.getD j 0)) (decide (ns.length ≤ ms.length)) 0 (min ns.length ms.length) = leT ns ms := by
  rw [lexAt_drop ns ms _ 0 (Nat.zero_add _)]
  rfl
def oLeT (d e : PyData) : R PyData := match asTu d, asTu e with
  | some k, some l => .ok (.bool (leT k l))
  | _, _ => .bad
section
variable {K : PySem.W.Frag}
theorem ok_leT : Ok2 K (rLeT K) oLeT := by
  intro O H Wx x y d e Q al hx hy h
  unfold oLeT at h
  split at h
  · rename_i k l hk hl
    obtain ⟨a, rfl, ha⟩ := asTu_rp hx hk
    obtain ⟨b, rfl, hb⟩ := asTu_rp hy hl
    refine ⟨a, b, k, l, rfl, rfl, Sub.unhide.sqT ha, Sub.unhide.sqT hb, ?_⟩
    rw [lexAt_all]
    exact Post.here h (.bl _)
  · exact h.elim
end
theorem _root_.L2.Room.u0 {k : Nat} {A : Around} (r : Room k A) : A.units < cLine := Nat.lt_of_le_of_lt (Nat.le_add_right _ _) r.u64
section
variable {X : Cx} {Tb : List Addr} {W : WX} {a b : Expr} {f g : Dn} {pos : Pos} {k : Nat}
theorem t_leT (hr : Room k X.A) (ha : PE X a (tD X.K Tb W f)) (hb : PE X b (tD X.K Tb W g)) (hm : behindInMarks .LtE b = false := by rfl) : PT X (.Compare a [.LtE] [b] pos) (tDT X.K Tb W (dAsB (dTwo oLeT f g))) := ft_cmp (op_leT hr.u0) ok_leT ha hb hm
/-- evaluated -/
theorem asTu_of (k : List Int) : asTu (.tuple (k.map .int)) = some k := by
  unfold asTu
  exact asInts_ints k
theorem oLeT_tu (k l : List Int) : oLeT (.tuple (k.map .int)) (.tuple (l.map .int)) = .ok (.bool (leT k l)) := by
  unfold oLeT
  rw [asTu_of, asTu_of]
end
end PD
set_option Elab.async false
set_option linter.all false
set_option maxRecDepth 100000
set_option maxHeartbeats 1000000
namespace PD
open PySem PySem.Spec PyProof.Rows L2
def SqX (K : PySem.W.Frag) (H : Hp) (tp : Bool) (a : Addr) (xs : List V) : Prop := match tp with
  | true => SqT K H a xs
  | false => SqL K H a xs
def ItX (h : Heap) (tp : Bool) (it a : Addr) (i : Nat) : Prop := match tp with
  | true => h.IsTupleIter it a i
  | false => h.IsListIter it a i
def PlX (h : Heap) (tp : Bool) (a : Addr) (its : Array Value) : Prop := match tp with
  | true => h.IsTuple a its
  | false => h.IsList a its
def itO (tp : Bool) (a : Addr) : Obj := match tp with
  | true => { cls := .type "tuple_iterator", data := .fields #[.ref a, .int 0 0] }
  | false => { cls := .type "list_iterator", data := .fields #[.ref a, .int 0 0] }
theorem drawsX {prog : Program} {w : World} {A : Around} (hh : A.handled = none) (tp : Bool) {it a : Addr} (ne : a ≠ it) (its : Array Value) :
    Draws prog w A it [it, a] its.size (fun i v => its[i]? = some v) (fun i h => ItX h tp it a i ∧ PlX h tp a its) := by
  cases tp with
  | true => exact Draws.tuple hh it a ne its
  | false => exact Draws.list hh it a ne its
theorem beginsX (tp : Bool) (a : Addr) (its : Array Value) : Begins (.ref a) (itO tp a) (fun h => PlX h tp a its) := by
  cases tp with
  | true => exact begins_tuple a its
  | false => exact begins_list a its
theorem itX_new {h : Heap} {tp : Bool} {it a : Addr} (e : h.get? it = some (itO tp a)) : ItX h tp it a 0 := by
  cases tp with
  | true => exact ⟨_, e, rfl, rfl⟩
  | false => exact ⟨_, e, rfl, rfl⟩
theorem ItX.obj {h : Heap} {tp : Bool} {it a : Addr} {i : Nat} (x : ItX h tp it a i) : ∃ o, h.get? it = some o ∧ ∀ v, o.data ≠ .cell v := by
  cases tp with
  | true =>
    obtain ⟨o, e, _, d⟩ := x
    exact ⟨o, e, fun v q => by rw [d] at q; cases q⟩
  | false =>
    obtain ⟨o, e, _, d⟩ := x
    exact ⟨o, e, fun v q => by rw [d] at q; cases q⟩
theorem ItX.at {h h' : Heap} {tp : Bool} {it a : Addr} {i : Nat} (x : ItX h tp it a i) (e : ∀ o, h.get? it = some o → h'.get? it = some o) : ItX h' tp it a i := by
  cases tp with
  | true => exact Heap.IsTupleIter.at x e
  | false => exact Heap.IsListIter.at x e
section
variable {X : Cx} {pins : List (Addr × Obj)} {σ : L2.St} {H : Hp} {s : Shared} {tp : Bool} {a : Addr} {xs ys : List V}
theorem sqX_read (I : Inv X pins σ H s) (h : SqX X.K H tp a xs) : ∃ its : List Value, Vals xs its ∧ PlX s.heap tp a its.toArray := by
  cases tp with
  | true =>
    obtain ⟨its, rv, p, _⟩ := I.tuple h
    exact ⟨its, rv, p⟩
  | false =>
    obtain ⟨its, rv, p, _⟩ := I.list h
    exact ⟨its, rv, p.isList⟩
theorem sqX_inj (I : Inv X pins σ H s) (h : SqX X.K H tp a xs) (h' : SqX X.K H tp a ys) : xs = ys := by
  cases tp with
  | true => exact I.tuple_inj h h'
  | false => exact I.list_inj h h'
theorem PlX.lt {h : Heap} {its : Array Value} (p : PlX h tp a its) : a < h.objs.size := by
  cases tp with
  | true => obtain ⟨_, e, _⟩ := p; exact Heap.lt_size e
  | false => obtain ⟨_, e, _⟩ := p; exact Heap.lt_size e
theorem SqX.step {K : PySem.W.Frag} {G G' : Hp} (s : Sub G G') (h : SqX K G tp a xs) : SqX K G' tp a xs := by
  cases tp with
  | true => exact s.sqT h
  | false => exact s.sqL h
end
def Ige (K : PySem.W.Frag) (tp : Bool) (a : Addr) (k : Int) : It where
  go i H := ∃ (xs : List V) (x : V), SqX K H tp a xs ∧ xs[i]? = some x
  yld i H v H' := ∃ T x, v = .ref T ∧ H T = none ∧ H' = upd H T (.tup [.int (k + (i : Nat)), x]) ∧ ∀ xs, SqX K H tp a xs → xs[i]? = some x
  stop i H := ∃ xs : List V, SqX K H tp a xs ∧ xs.length = i
theorem turn_enumX {P : Program} {w : World} {K : PySem.W.Frag} {elts : List Expr} {kk : Nat} {tpos : Pos} {tp : Bool} {k : Int} {a e it : Addr} (n1 : e ≠ it) (n2 : a ≠ it) (n3 : a ≠ e) :
    Turn P w K (.Tuple elts kk tpos) (Ige K tp a k) [e, it] e (fun i h => (∃ old, IsEnum h e it (k + (i : Nat)) old) ∧ ItX h tp it a i) where
  mem := List.mem_cons_self
  obj := fun i h ⟨⟨old, he⟩, hi⟩ b hb => by
    rcases List.mem_cons.mp hb with z | z
    · subst z
      exact ⟨_, he, fun v q => nomatch q⟩
    · cases List.mem_singleton.mp z
      exact hi.obj
  keep := fun i h h' ⟨⟨old, he⟩, hi⟩ q => ⟨⟨old, q e List.mem_cons_self _ he⟩, hi.at fun o z => q it (List.mem_cons_of_mem _ List.mem_cons_self) o z⟩
  item := by
    intro X hP hw hK hc i pins s σ H E I hf st hg
    cases hP; cases hw; cases hK
    obtain ⟨⟨old, he⟩, hit⟩ := st
    obtain ⟨xs, x, hq, hx⟩ := hg
    obtain ⟨its, rv, p⟩ := sqX_read I hq
    obtain ⟨u, hu, ru⟩ := rv.get hx
    have big : e < s.heap.objs.size := Heap.lt_size he
    have lti : i < its.toArray.size := by
      obtain ⟨z, _⟩ := List.getElem?_eq_some_iff.mp hu
      simpa using z
    have D := drawsX (prog := X.prog) (w := X.w) (A := X.A.in1) (I.ok.hd hc) tp n2 its.toArray
    refine wpAny_pyNext_enum_itemC D he ⟨hit, p⟩ lti n1 (by simp only [List.mem_cons, List.not_mem_nil, or_false, not_or]; exact ⟨n1, n3.symm⟩) fun y h1 tk hy ho st1 hT hsz hk => ?_
    have ey : y = u := by
      have hy : its.toArray[i]? = some y := hy
      rw [List.getElem?_toArray, hu] at hy
      exact (Option.some.inj hy).symm
    subst ey
    refine ⟨_, rfl, wpAny_letOwnedTupleGo_enum (s := { s with heap := h1, toks := tk + 1 }) ho fun h2 he2 sb => ?_⟩
    have hT2 : h2.get? s.heap.objs.size = some { cls := .type "tuple", data := .seq #[.int (k + (i : Nat)) tk, y] } := (sb.2 _ (Nat.ne_of_gt big)).trans hT
    have fresh : ObjOk X.prog X.w (upd H s.heap.objs.size (.tup [.int (k + (i : Nat)), x])) h2 s.heap.objs.size (.tup [.int (k + (i : Nat)), x]) :=
      ⟨by show 2 ≤ sizeLine; rw [sizeLine_eq]; decide, [.int (k + (i : Nat)) tk, y], .cons ⟨_, rfl⟩ (.cons ru .nil), ⟨_, hT2, rfl, _, rfl⟩⟩
    have I1 : Inv X pins σ (upd H s.heap.objs.size (.tup [.int (k + (i : Nat)), x])) { s with heap := h2, toks := tk + 1 } :=
      I.turnedNew (ch := [e, it]) (fun b ob hb q => by
        rw [List.mem_cons, List.mem_singleton, not_or] at hb
        exact (sb.2 b hb.1).trans (hk b ob hb.1 hb.2 q)) hf (Nat.le_refl _) fresh
    refine ⟨.ref s.heap.objs.size, _, I1, rfl, ⟨_, x, rfl, I.hok.fresh (Nat.le_refl _), rfl, fun ys hy => by rw [sqX_inj I hy hq]; exact hx⟩, ⟨⟨y, ?_⟩, st1.1.at fun o q => (sb.2 it n1.symm).trans q⟩, fun b hb => ?_⟩
    · rw [show k + ((i + 1 : Nat) : Int) = k + (i : Int) + 1 by omega]
      exact he2
    · have hb2 : b < s.heap.objs.size := by
        rcases List.mem_cons.mp hb with z | z
        · rw [z]; exact big
        · rw [List.mem_singleton.mp z]
          obtain ⟨o, q, _⟩ := hit.obj
          exact Heap.lt_size q
      rw [upd_ne (Nat.ne_of_lt hb2)]
      exact (hf b hb).1
  done := by
    intro X hP hw hK hc i pins s σ H E I hf st hg
    cases hP; cases hw; cases hK
    obtain ⟨⟨old, he⟩, hit⟩ := st
    obtain ⟨xs, hq, hx⟩ := hg
    obtain ⟨its, rv, p⟩ := sqX_read I hq
    have D := drawsX (prog := X.prog) (w := X.w) (A := X.A.in1) (I.ok.hd hc) tp n2 its.toArray
    have el : i = its.toArray.size := by
      have := rv.length
      simp
      omega
    subst el
    obtain ⟨f0, f1, f2, f3, f4, f5⟩ := hf it (List.mem_cons_of_mem _ List.mem_cons_self)
    exact wpAny_pyNext_enum_endD D he ⟨hit, p⟩ fun h' eb => ⟨rfl, I.turned (t' := s.toks) (fun b o hb q => eb b o hb q) f0 f1 f3 f4 f5⟩
  self := fun A i s Q E ⟨⟨_, he⟩, _⟩ h => wpAny_pyIter_enum he h
theorem enum_new1 {v : Value} {o : Obj} {Hq : Heap → Prop} (B : Begins v o Hq) :
    Meets (Builtin.«enumerate.__new__» ⟨[.type "enumerate", v], []⟩) (fun _ R s => Hq s.heap ∧
      R (.ok (.ret (.ref (s.heap.push o).objs.size))) { s with heap := (s.heap.push o).push { cls := .type "enumerate", data := .fields #[.none, .bool false, .ref s.heap.objs.size, rawInt 0, .none, .none] } }) :=
  .of_wp fun prog w A R s h => by
    obtain ⟨hp, g, d, tk, os⟩ := s
    obtain ⟨h1, h⟩ := h
    have hsub := sub_enumerate
    have q1 : ∀ {A1 : Around} {E : Value → Shared → Prop} {Q : Value → Shared → Prop}, Q (.ref hp.objs.size) ⟨hp.push o, g, d, tk, os⟩ → wpAny (model prog w) A1 (pyIter v) Q E ⟨hp, g, d, tk, os⟩ :=
      fun q => B.iter prog w _ _ ⟨hp, g, d, tk, os⟩ _ h1 q
    wp_walk using q1
    refine wpAny_stack_any fun st => wpAny_pure ?_
    split
    · rename_i c _ _ _ _ _
      cases (c == Value.type "enumerate") <;> wp_walk using q1 <;> exact ⟨_, rfl, h⟩
    · wp_walk using q1
      exact ⟨_, rfl, h⟩
theorem enum_begins1 {prog : Program} {w : World} {A : Around} {E : Value → Shared → Prop} {s : Shared} {v : Value} {o : Obj} {Hq : Heap → Prop} {Q : Value → Shared → Prop} (B : Begins v o Hq) (h1 : Hq s.heap)
    (h : ∀ h', IsEnum h' (s.heap.objs.size + 1) s.heap.objs.size 0 .none → h'.get? s.heap.objs.size = some o → (∀ b o, s.heap.get? b = some o → h'.get? b = some o) → Q (.ref (s.heap.objs.size + 1)) { s with heap := h' }) :
    wpAny (model prog w) A (call (.type "enumerate") [v]) Q E s := by
  refine callType_new F.called_enumerate (by decide) (F.typeCall_enumerate_1 _) (F.newCall_enumerate_1 _) (fun obj => F.args_object_init_2 obj _) F.entry_enumerate_new (enum_new1 B) ⟨h1, ?_⟩
  have hz : (s.heap.push o).objs.size = s.heap.objs.size + 1 := Heap.size_push ..
  show _ ∧ _
  rw [hz]
  have he : IsEnum ((s.heap.push o).push { cls := .type "enumerate", data := .fields #[.none, .bool false, .ref s.heap.objs.size, rawInt 0, .none, .none] }) (s.heap.objs.size + 1) s.heap.objs.size 0 .none := by
    have := Heap.get?_push_size (s.heap.push o) (o := { cls := .type "enumerate", data := .fields #[.none, .bool false, .ref s.heap.objs.size, rawInt 0, .none, .none] }) rfl
    rw [hz] at this
    exact this
  exact ⟨⟨_, he, rfl⟩, h _ he (Heap.get?_push_of_some _ (Heap.get?_push_size _ B.free)) fun b o x => Heap.get?_push_of_some _ (Heap.get?_push_of_some _ x)⟩
def iEnumX (K : PySem.W.Frag) (ta : TA) : TI := fun σ H R => ta σ H fun vs H1 => ∃ tp a xs, vs = [.ref a] ∧ SqX K H1 tp a xs ∧ R (Ige K tp a 0) H1
theorem pi_enumX {X : Cx} {e : Expr} {ta : TA} {p pos tpos : Pos} {elts : List Expr} {kk : Nat} (hg : Gl X "enumerate") (hm : X.mg "enumerate" = none) (ha : PA X [e] ta) (hs : starEach [e] X.env = [(false, eval e X.env)] := by rfl) :
    PI X (.Tuple elts kk tpos) (.Call (.Name "enumerate" p) [e] [] pos) (iEnumX X.K ta) := by
  refine ⟨fun pins s σ H R I h => Call_ (ld_blt I hg hm boot_enumerate (PyProof.Rows.callWith_type1 (thn (ha.run pos pins s σ H _ I h) fun us s1 ⟨vs, H1, I1, r1, q1⟩ => ?_) hs rfl))⟩
  obtain ⟨tp, a, xs, rfl, hq, q⟩ := q1
  cases r1 with
  | cons r rr =>
    cases rr
    cases r
    obtain ⟨its, rv, p'⟩ := sqX_read I1 hq
    have la := p'.lt
    refine enum_begins1 (beginsX tp a its.toArray) p' fun h' he hit hk => wpAny_pyIter_enum he ?_
    have I2 : Inv X pins σ H1 { s1 with heap := h' } := I1.kept (t' := s1.toks) hk
    refine ⟨s1.heap.objs.size + 1, [s1.heap.objs.size + 1, s1.heap.objs.size], _, _, H1, rfl, I2, turn_enumX (e := s1.heap.objs.size + 1) (it := s1.heap.objs.size) (k := 0) (Nat.succ_ne_self _) (Nat.ne_of_lt la) (Nat.ne_of_lt (Nat.lt_succ_of_lt la)), ⟨⟨.none, he⟩, itX_new hit⟩, fun b hb => ?_, q⟩
    have hle : s1.heap.objs.size ≤ b := by
      rcases List.mem_cons.mp hb with z | z
      · rw [z]; exact Nat.le_succ _
      · rw [List.mem_singleton.mp z]; exact Nat.le_refl _
    exact I1.fpOk hle (I1.hok.fresh hle)
def enumF (k : Int) : List PyData → List PyData
  | [] => []
  | d :: ds => .tuple [.int k, d] :: enumF (k + 1) ds
theorem enumF_len (k : Int) : ∀ ds : List PyData, (enumF k ds).length = ds.length
  | [] => rfl
  | d :: ds => by simp [enumF, enumF_len (k + 1) ds]
theorem enumF_get : ∀ {k : Int} {ds : List PyData} {i : Nat} {d : PyData}, ds[i]? = some d → (enumF k ds)[i]? = some (.tuple [.int (k + (i : Nat)), d])
  | k, d :: ds, 0, e, h => by
    cases h
    simp [enumF]
  | k, d :: ds, i + 1, e, h => by
    have := enumF_get (k := k + 1) (ds := ds) (i := i) (d := e) (by simpa using h)
    simp only [enumF, List.getElem?_cons_succ, this]
    congr 4
    omega
  | k, [], i, e, h => by simp at h
section
variable {K : PySem.W.Frag} {G H H' H'' : Hp} {O O' : List Addr} {a : Addr} {ds : List PyData} {xs : List V} {tp : Bool}
theorem itd_enum {k : Int} (h : SqX K G tp a xs) (z : ds.length ≤ sizeLine) (r : RpAll K G xs ds) : ItD K G (Ige K tp a k) (enumF k ds) where
  len := by rw [enumF_len]; exact z
  go := fun i H' e hi => by
    rw [enumF_len] at hi
    have hx : i < xs.length := by rw [r.length]; exact hi
    exact ⟨xs, xs[i], h.step (Sub.ext e), List.getElem?_eq_getElem hx⟩
  yld := fun i H' O' x H'' e n al hi y => by
    obtain ⟨T, v, rfl, nT, rfl, y⟩ := y
    obtain ⟨d, h1, h2⟩ := r.get (y xs (h.step (Sub.ext e)))
    refine ⟨Ext.new nT, _, enumF_get h1, .tup (.of ?_) (by show 2 ≤ sizeLine; rw [sizeLine_eq]; decide) (.cons (.int _) (.cons (h2.mono ?_) .nil))⟩
    · rw [hide_out fun m => al T m nT, upd_same]
    · exact ((e.trans (Ext.new nT)).under n)
  stop := fun H' e => ⟨xs, h.step (Sub.ext e), by rw [enumF_len]; exact r.length⟩
end
def enumA : List PyData → R (List PyData)
  | [d] => items d >>= fun ds => .ok (enumF 0 ds)
  | _ => .bad
def dEnum (g : DnL) : DnL := fun ρ => g ρ >>= enumA
theorem rp_items {K : PySem.W.Frag} {G : Hp} {v : V} {d : PyData} {ds : List PyData} (r : Rp K G v d) (h : items d = .ok ds) : ∃ tp a xs, v = .ref a ∧ SqX K G tp a xs ∧ ds.length ≤ sizeLine ∧ RpAll K G xs ds := by
  unfold items at h
  split at h
  · cases h
    cases r with
    | lst h1 z1 a1 => exact ⟨false, _, _, rfl, h1, z1, a1⟩
  · cases h
    cases r with
    | tup h1 z1 a1 => exact ⟨true, _, _, rfl, h1, z1, a1⟩
  · cases h
theorem items_no {d : PyData} {x : Ex} : items d ≠ .exc x := by unfold items; split <;> exact fun h => by cases h
theorem fi_enum {X : Cx} {Tb : List Addr} {W : WX} {e : Expr} {g : DnL} {p pos tpos : Pos} {elts : List Expr} {kk : Nat} (hg : Gl X "enumerate") (hm : X.mg "enumerate" = none) (ha : PA X [e] (tDs X.K Tb W g)) (hs : starEach [e] X.env = [(false, eval e X.env)] := by rfl) :
    PI X (.Tuple elts kk tpos) (.Call (.Name "enumerate" p) [e] [] pos) (tI X.K Tb W (dEnum g)) := (pi_enumX hg hm ha hs).by fun σ H R ⟨H0, O0, O, ρ, st, h⟩ => ⟨H0, O0, O, ρ, st, by
  refine Post.then h fun d v H1 ex r k => ?_
  unfold enumA at k
  split at k
  · rename_i d0
    cases r with
    | cons r1 r2 =>
      cases r2
      cases hi : items d0 with
      | bad => rw [hi] at k; exact k.elim
      | exc x => exact absurd hi items_no
      | ok ds =>
        rw [hi] at k
        obtain ⟨tp, a, xs, rfl, h1, z1, a1⟩ := rp_items r1 hi
        exact ⟨tp, a, xs, rfl, h1.step Sub.unhide, k _ H1 (Ext.refl _) (itd_enum h1 z1 a1)⟩
  · exact k.elim⟩
def zipD : List PyData → List PyData → List PyData
  | d :: ds, e :: es => .tuple [d, e] :: zipD ds es
  | _, _ => []
def zipA : List PyData → R (List PyData)
  | [d, e] => items d >>= fun ds => items e >>= fun es => .ok (zipD ds es)
  | _ => .bad
def dZip (g : DnL) : DnL := fun ρ => g ρ >>= zipA
end PD
set_option Elab.async false
set_option linter.all false
set_option maxRecDepth 100000
set_option maxHeartbeats 1000000
namespace PD
open PySem PySem.Spec PyProof.Rows L2
structure LamS1 (sc scope : Scope) (x : Str) : Prop where
  kind : scope.kind = .function
  co : scope.isCoroutine = false
  gen : scope.isGenerator = false
  par : scope.names.lookup x = some .local
  cell : ∀ y ∈ scope.names, y.2 ≠ .cell
  loc : ∀ y ∈ scope.names, y.2 = .local → y.1 = x
  free : ∀ y ∈ scope.names, y.2 = .free → sc.names.lookup y.1 = some .cell ∨ sc.names.lookup y.1 = some .free
theorem LamS1.has {X : Cx} {scope : Scope} {x : Str} (L : LamS1 X.env.scope scope x) (ok : X.Ok) : ∀ y ∈ scope.names, y.2 = .free → ∃ c, X.env.cells.lookup y.1 = some c := fun y hy e => by
  rcases L.free y hy e with k | k
  · exact ok.has _ (.inl k)
  · exact ok.has _ (.inr k)
end PD
set_option Elab.async false
set_option linter.all false
set_option maxRecDepth 100000
set_option maxHeartbeats 1000000
namespace PD
open PySem PySem.Spec PyProof.Rows L2
theorem PlX.at {h h' : Heap} {tp : Bool} {a : Addr} {its : Array Value} (p : PlX h tp a its) (e : ∀ o, h.get? a = some o → h'.get? a = some o) : PlX h' tp a its := by
  cases tp with
  | true => exact Heap.IsTuple.at p e
  | false => exact Heap.IsList.at p e
end PD
set_option Elab.async false
set_option linter.all false
set_option maxRecDepth 100000
set_option maxHeartbeats 1000000
namespace PD
open PySem PySem.Spec PyProof.Rows L2
def lc2Go (t : Tg) (ft : DnB) (fi1 : DnL) (t1 : Tg) (ft1 : DnB) (fe : Dn) (vs1 : List Nat) (ρ : Rho) : List PyData → R (List PyData)
  | [] => .ok []
  | d :: ds => match t.set d ρ with
    | some ρ1 => nx (ft ρ1) fun b => if b = true then nx (fi1 ρ1) fun es => nx (lcGo t1 ft1 fe (wipeR ρ1 vs1) es) fun ys => nx (lc2Go t ft fi1 t1 ft1 fe vs1 ρ ds) fun zs => .ok (ys ++ zs) else lc2Go t ft fi1 t1 ft1 fe vs1 ρ ds
    | none => .bad
def dLc2 (fi : DnL) (t : Tg) (ft : DnB) (fi1 : DnL) (t1 : Tg) (ft1 : DnB) (fe : Dn) (vs vs1 : List Nat) : Dn := fun ρ => fi ρ >>= fun ds => nx (lc2Go t ft fi1 t1 ft1 fe vs1 (wipeR ρ vs) ds) fun ys => if ys.length ≤ sizeLine then .ok (.list ys) else .bad
theorem ext_past {Hb H H' : Hp} {D : Addr} (e : Ext Hb H) (n : Hb D = none) (pl : ∀ c q, H D ≠ some (LamX.CodeO c q)) (e2 : Ext (hide [D] H) H') : Ext Hb H' := by
  have out : ∀ b, b ≠ D → hide [D] H b = H b := fun b h => hide_out (by simpa using h)
  refine ⟨fun b o h t => ?_, fun b t => ?_, fun b h => ?_⟩
  · exact e2.keep b o (by rw [out b (ne_of_none h n)]; exact e.keep b o h t) t
  · have hb : b ≠ D := tabG_ne t fun ps q => by rw [n] at q; cases q
    exact e2.tab b ((e.tab b t).mono (fun ps h => by rw [out b hb]; exact h) fun c q h => by rw [out c fun z => pl c q (by rw [← z]; exact h)]; exact h)
  · have hb : b ≠ D := fun z => h (by rw [z]; exact n)
    exact e2.al b (by rw [out b hb]; exact e.al b h)
mutual
theorem tg_own {i : Nat} {s : Sl} (hs : s.Hold) : ∀ {t : Tg} {d : PyData} {ρ ρ1 : Rho}, ρ1[i]? = some (some s) → t.set d ρ = some ρ1 → ρ[i]? = some (some s)
  | .nm j, d, ρ, ρ1, h, e => by
    unfold Tg.set at e
    cases e
    by_cases hj : j = i
    · subst hj
      by_cases hl : j < ρ.length
      · rw [List.getElem?_set_self hl] at h; cases h; exact hs.elim
      · rw [List.getElem?_eq_none (by rw [List.length_set]; omega)] at h; cases h
    · rw [List.getElem?_set_ne hj] at h; exact h
  | .tp ts, d, ρ, ρ1, h, e => by
    unfold Tg.set at e
    split at e
    · exact tgs_own hs h e
    · cases e
theorem tgs_own {i : Nat} {s : Sl} (hs : s.Hold) : ∀ {ts : List Tg} {ds : List PyData} {ρ ρ1 : Rho}, ρ1[i]? = some (some s) → Tg.sets ts ds ρ = some ρ1 → ρ[i]? = some (some s)
  | [], [], ρ, ρ1, h, e => by
    unfold Tg.sets at e
    cases e
    exact h
  | t :: ts, d :: ds, ρ, ρ1, h, e => by
    unfold Tg.sets at e
    cases e1 : t.set d ρ with
    | none => rw [e1] at e; cases e
    | some ρ2 =>
      rw [e1] at e
      exact tg_own hs (tgs_own hs h e) e1
  | [], d :: ds, ρ, ρ1, h, e => by unfold Tg.sets at e; cases e
  | t :: ts, [], ρ, ρ1, h, e => by unfold Tg.sets at e; cases e
end
section
variable {K : PySem.W.Frag} {Tb : List Addr}
/-- the turns of the inner clause: what it makes goes behind acc0 at D -/
theorem in_turns {t : Tg} {ft : DnB} {fe : Dn} {vs : List Nat} {σ σB : L2.St} {ρ ρB : Rho} {H0 H1 : Hp} {O0 O : List Addr} {J : It} {D : Addr} {ds ys acc0 : List PyData} {l0 : List V} {Nx : Hp → Prop} (hv : ∀ i ∈ t.ixs, i ∈ vs) (mD : D ∈ O) (mD0 : D ∉ O0)
    (own : ∀ (i : Nat) (s : Sl), s.Hold → ρ[i]? = some (some s) → σ[i]? ≠ some (some (.ref D))) (ownB : ∀ (i : Nat) (s : Sl), s.Hold → ρB[i]? = some (some s) → σB[i]? ≠ some (some (.ref D)))
    (stA : St0 K Tb H0 O0 O H1 σ ρ) (stB : St0 K Tb H0 O0 O H1 σB ρB) (it : ItD K (hide O H1) J ds) (hys : lcGo t ft fe (wipeR ρ vs) ds = .ok ys) (hD0 : H1 D = some (.lst l0)) (r0 : RpAll K (hide O H1) l0 acc0) (zl : acc0.length + ys.length ≤ sizeLine)
    (fin : ∀ l H', St0 K Tb H0 O0 O H' σB ρB → Ext (hide [D] H1) H' → H' D = some (.lst l) → RpAll K (hide O H') l (acc0 ++ ys) → Nx H') :
    ∃ W1 : Nat → Nat → Hp → Prop, (∃ m, W1 0 m H1) ∧ ∀ j k H, W1 j k H → (J.stop j H ∧ Nx H) ∨ (J.go j H ∧ ∃ Nx1 : Hp → Prop, (∀ H', Nx1 H' → ∃ k', k' < k ∧ W1 (j + 1) k' H') ∧ ∀ x H', J.yld j H x H' → tG K Tb t x (L2.wipe σ vs) H' fun σ3 H5 => L2.wipe σ3 vs = L2.wipe σ vs ∧ tDT K Tb W0 ft σ3 H5 fun b H6 =>
      if b = true then tD K Tb W0 fe σ3 H6 fun y H7 => ∃ acc, H7 D = some (.lst acc) ∧ acc.length < sizeLine ∧ Nx1 (upd H7 D (.lst (acc ++ [y]))) else Nx1 H6) := by
  have stw := stA.wiped vs
  have ownW : ∀ (i : Nat) (s : Sl), s.Hold → (wipeR ρ vs)[i]? = some (some s) → (L2.wipe σ vs)[i]? ≠ some (some (.ref D)) := fun i xs hs h1 h2 => by
    obtain ⟨g1, g2⟩ := wipeR_some h1
    rw [wipe_out g2] at h2
    exact own i xs hs g1 h2
  have nO : ∀ b ∈ O, hide O H1 b = none := fun b hb => hide_in hb
  have eO : Ext (hide O H1) (hide [D] H1) := by
    have sub : ∀ b o, hide O H1 b = some o → hide [D] H1 b = some o := fun b o h => by
      obtain ⟨h1, h2⟩ := hide_some h
      rw [hide_out (by simp only [List.mem_singleton]; exact fun z => h1 (by rw [z]; exact mD))]
      exact h2
    refine ⟨fun b o h _ => sub b o h, fun b t => t.mono (fun ps h => sub b _ h) fun c q h => sub c _ h, fun b h => ?_⟩
    cases q : hide O H1 b with
    | none => exact absurd q h
    | some x => rw [sub b x q]; simp
  have nD : hide [D] H1 D = none := hide_in (by simp)
  refine ⟨fun i m H' => i ≤ ds.length ∧ m = ds.length - i ∧ ∃ l done rest, St0 K Tb H0 O0 O H' (L2.wipe σ vs) (wipeR ρ vs) ∧ St0 K Tb H0 O0 O H' σB ρB ∧ Ext (hide [D] H1) H' ∧ H' D = some (.lst l) ∧ RpAll K (hide O H') l (acc0 ++ done) ∧ lcGo t ft fe (wipeR ρ vs) (ds.drop i) = .ok rest ∧ done ++ rest = ys,
    ⟨ds.length, Nat.zero_le _, by simp, l0, [], ys, stw, stB, Ext.unhide, hD0, by simpa using r0, hys, rfl⟩, ?_⟩
  rintro i m H' ⟨hi, rfl, l, done, rest, s1, sB, e1, hD, ra, go, ey⟩
  have eG : Ext (hide O H1) H' := eO.trans e1
  by_cases hlt : i < ds.length
  · refine .inr ⟨it.go i H' eG hlt, fun H2 => i + 1 ≤ ds.length ∧ ∃ l done rest, St0 K Tb H0 O0 O H2 (L2.wipe σ vs) (wipeR ρ vs) ∧ St0 K Tb H0 O0 O H2 σB ρB ∧ Ext (hide [D] H1) H2 ∧ H2 D = some (.lst l) ∧ RpAll K (hide O H2) l (acc0 ++ done) ∧ lcGo t ft fe (wipeR ρ vs) (ds.drop (i + 1)) = .ok rest ∧ done ++ rest = ys,
      fun H2 q => ⟨ds.length - (i + 1), by omega, q.1, rfl, q.2⟩, fun x H2 y => ?_⟩
    obtain ⟨e2, d, hd, rx⟩ := it.yld i H' O x H2 eG nO s1.al hlt y
    have hdr : ds.drop i = d :: ds.drop (i + 1) := by
      obtain ⟨hl, hd'⟩ := List.getElem?_eq_some_iff.mp hd
      rw [List.drop_eq_getElem_cons hl, hd']
    rw [hdr] at go
    unfold lcGo at go
    cases et : t.set d (wipeR ρ vs) with
    | none => rw [et] at go; cases go
    | some ρ1 =>
      rw [et] at go
      obtain ⟨b, eb, go⟩ := nx_ok go
      have s2 := s1.step e2
      refine ⟨H0, O0, O, wipeR ρ vs, ρ1, d, s2, rx, et, fun σ' st' ag => ⟨(ag.wipe hv).trans wipe_wipe, H0, O0, O, ρ1, st', ?_⟩⟩
      rw [eb]
      intro b' H3 e3 r3
      cases (show b' = b from r3)
      have s3 := st'.step e3
      have keepD : ∀ {G : Hp}, Ext H' G → G D = some (.lst l) := fun e => e.keep D _ hD (fun _ q => by cases q)
      cases b with
      | false => exact ⟨hlt, l, done, rest, s2.step e3, sB.step (e2.trans e3), e1.trans (e2.trans e3), keepD (e2.trans e3), ra.mono (Sub.hide (e2.trans e3).keep), go, ey⟩
      | true =>
        obtain ⟨yd, ey1, go⟩ := nx_ok go
        obtain ⟨rs, er, go⟩ := nx_ok go
        cases go
        refine ⟨H0, O0, O, ρ1, s3, ?_⟩
        rw [ey1]
        intro y H4 e4 r4
        have e24 := (e2.trans e3).trans e4
        have hD4 := keepD e24
        have s4 := (s2.step e3).step e4
        have sB4 := sB.step e24
        have lz : l.length < sizeLine := by
          have h1 := ra.length
          have h2 := congrArg List.length ey
          simp only [List.length_append, List.length_cons] at h1 h2
          omega
        refine ⟨l, hD4, lz, hlt, l ++ [y], done ++ [yd], rs, s4.hid mD mD0 hD4 ownW, sB4.hid mD mD0 hD4 ownB, (e1.trans e24).updN nD (fun c q z => (plain_lst l).1 c q (Option.some.inj (hD4.symm.trans z))), upd_same, ?_, er, ?_⟩
        · rw [hide_upd mD, ← List.append_assoc]
          exact (ra.mono (Sub.hide e24.keep)).append (.one r4)
        · rw [List.append_assoc]; exact ey
  · have ei : i = ds.length := by omega
    subst ei
    refine .inl ⟨it.stop H' eG, ?_⟩
    rw [List.drop_length] at go
    cases go
    rw [List.append_nil] at ey
    subst ey
    exact fin l H' sB e1 hD ra
theorem lc2_walk {W : WX} {t t1 : Tg} {ft ft1 : DnB} {fe : Dn} {fi fi1 : DnL} {vs vs1 : List Nat} {σ : L2.St} {H : Hp} {Q : VK} (hv : ∀ i ∈ t.ixs, i ∈ vs) (hv1 : ∀ i ∈ t1.ixs, i ∈ vs1) (h : tD K Tb W (dLc2 fi t ft fi1 t1 ft1 fe vs vs1) σ H Q) :
    tLc2 (tI K Tb W fi) (tG K Tb t) (tDT K Tb W0 ft) (tI K Tb W0 fi1) (tG K Tb t1) (tDT K Tb W0 ft1) (tD K Tb W0 fe) vs vs1 σ H Q := by
  obtain ⟨H0, O0, O, ρ, st, h⟩ := h
  refine ⟨H0, O0, O, ρ, st, Post.then h fun ds J H1 e it k => ?_⟩
  cases q : lc2Go t ft fi1 t1 ft1 fe vs1 (wipeR ρ vs) ds with
  | exc x => rw [q] at k; exact k.elim
  | bad => rw [q] at k; exact k.elim
  | ok ys =>
    rw [q, nx_ok'] at k
    split at k
    case isFalse => exact k.elim
    rename_i hz
    intro D nD
    have st1 := st.step e
    have aD : D ∉ O := st1.fresh nD
    have stw := (st1.wiped vs).more (o := .lst []) nD (plain_lst [])
    have aD0 : D ∉ O0 := fun m => aD (st1.sub D m)
    have own : ∀ (i : Nat) (s : Sl), s.Hold → (wipeR ρ vs)[i]? = some (some s) → (L2.wipe σ vs)[i]? ≠ some (some (.ref D)) := fun i s hs h1 h2 => aD ((st1.wiped vs).hold hs h1 h2).1
    have nO : ∀ b ∈ D :: O, hide O H1 b = none := fun b hb => by
      rcases List.mem_cons.mp hb with rfl | hb
      · exact hide_none nD
      · exact hide_in hb
    refine ⟨fun i m H' => i ≤ ds.length ∧ m = ds.length - i ∧ ∃ l done rest, St0 K Tb H0 O0 (D :: O) H' (L2.wipe σ vs) (wipeR ρ vs) ∧ Ext H1 H' ∧ H' D = some (.lst l) ∧ RpAll K (hide (D :: O) H') l done ∧ lc2Go t ft fi1 t1 ft1 fe vs1 (wipeR ρ vs) (ds.drop i) = .ok rest ∧ done ++ rest = ys,
      ⟨ds.length, Nat.zero_le _, by simp, [], [], ys, stw, Ext.new nD, upd_same, .nil, q, rfl⟩, ?_⟩
    rintro i m H' ⟨hi, rfl, l, done, rest, s1, e1, hD, ra, go, ey⟩
    have eG : Ext (hide O H1) H' := Ext.unhide.trans e1
    by_cases hlt : i < ds.length
    · refine .inr ⟨it.go i H' eG hlt, fun H2 => i + 1 ≤ ds.length ∧ ∃ l done rest, St0 K Tb H0 O0 (D :: O) H2 (L2.wipe σ vs) (wipeR ρ vs) ∧ Ext H1 H2 ∧ H2 D = some (.lst l) ∧ RpAll K (hide (D :: O) H2) l done ∧ lc2Go t ft fi1 t1 ft1 fe vs1 (wipeR ρ vs) (ds.drop (i + 1)) = .ok rest ∧ done ++ rest = ys,
        fun H2 q => ⟨ds.length - (i + 1), by omega, q.1, rfl, q.2⟩, fun x H2 y => ?_⟩
      obtain ⟨e2, d, hd, rx⟩ := it.yld i H' (D :: O) x H2 eG nO s1.al hlt y
      have hdr : ds.drop i = d :: ds.drop (i + 1) := by
        obtain ⟨hl, hd'⟩ := List.getElem?_eq_some_iff.mp hd
        rw [List.drop_eq_getElem_cons hl, hd']
      rw [hdr] at go
      unfold lc2Go at go
      cases et : t.set d (wipeR ρ vs) with
      | none => rw [et] at go; cases go
      | some ρ1 =>
        rw [et] at go
        obtain ⟨b, eb, go⟩ := nx_ok go
        have s2 := s1.step e2
        refine ⟨H0, O0, D :: O, wipeR ρ vs, ρ1, d, s2, rx, et, fun σ2 st2 ag => ⟨(ag.wipe hv).trans wipe_wipe, H0, O0, D :: O, ρ1, st2, ?_⟩⟩
        rw [eb]
        intro b' H3 e3 r3
        cases (show b' = b from r3)
        have s3 := st2.step e3
        have keepD : ∀ {G : Hp}, Ext H' G → G D = some (.lst l) := fun e => e.keep D _ hD (fun _ q => by cases q)
        cases b with
        | false => exact ⟨hlt, l, done, rest, s2.step e3, e1.trans (e2.trans e3), keepD (e2.trans e3), ra.mono (Sub.hide (e2.trans e3).keep), go, ey⟩
        | true =>
          obtain ⟨es, ee, go⟩ := nx_ok go
          obtain ⟨ys1, ey1, go⟩ := nx_ok go
          obtain ⟨zs, ez, go⟩ := nx_ok go
          cases go
          refine ⟨H0, O0, D :: O, ρ1, s3, ?_⟩
          rw [ee]
          intro J1 H4 e4 it1
          have e24 := (e2.trans e3).trans e4
          have hD4 := keepD e24
          have s4 := s3.step e4
          have sB := (s2.step e3).step e4
          have own1 : ∀ (i : Nat) (s : Sl), s.Hold → ρ1[i]? = some (some s) → σ2[i]? ≠ some (some (.ref D)) := fun i xs hs h1 h2 => by
            have g1 := tg_own hs h1 et
            obtain ⟨_, g2⟩ := wipeR_some g1
            rw [ag.2 i fun m => g2 (hv i m)] at h2
            exact own i xs hs g1 h2
          refine in_turns (acc0 := done) hv1 List.mem_cons_self aD0 own1 own s4 sB it1 ey1 hD4 (ra.mono (Sub.hide e24.keep)) ?_ fun l' H5 sB5 e5 hD5 r5 => ?_
          · have h2 := congrArg List.length ey
            simp only [List.length_append] at h2
            omega
          · refine ⟨hlt, l', done ++ ys1, zs, sB5, ext_past (e1.trans e24) nD (fun c q z => (plain_lst l).1 c q (Option.some.inj (hD4.symm.trans z))) e5, hD5, r5, ez, ?_⟩
            rw [List.append_assoc]; exact ey
    · have ei : i = ds.length := by omega
      subst ei
      refine .inl ⟨it.stop H' eG, ?_⟩
      rw [List.drop_length] at go
      cases go
      rw [List.append_nil] at ey
      subst ey
      exact k _ H' e1 (.lst (.of (by rw [hide_out aD]; exact hD)) hz (ra.mono (Sub.less fun b hb => List.mem_cons_of_mem _ hb)))
end
section
variable {X : Cx} {Tb : List Addr} {W : WX}
theorem fd_lc2 {elt tg iter tg1 iter1 : Expr} {ifs ifs1 : List Expr} {scope : Scope} {own : List (Str × Nat)} {vs1 : List Nat} {pos : Pos} {fi fi1 : DnL} {t t1 : Tg} {ft ft1 : DnB} {fe : Dn} (hc : X.calm = true) (hN : X.N.Nodup) (hi : PI X tg iter (tI X.K Tb W fi)) (ok : BlkOk X.N X.env.scope scope own)
    (hg : ∀ (s : Shared) (H : Hp) (C : Addr) (cl : List (Str × Addr)) (fp : List Addr), PG (X.blk s H scope (compEnvC scope cl C X.env) fp) tg (tG X.K Tb t))
    (ht : ∀ (s : Shared) (H : Hp) (C : Addr) (cl : List (Str × Addr)) (fp : List Addr), PTs (X.blk s H scope (compEnvC scope cl C X.env) fp) ifs (tDT X.K Tb W0 ft))
    (hi1 : ∀ (s : Shared) (H : Hp) (C : Addr) (cl : List (Str × Addr)) (fp : List Addr), PI (X.blk s H scope (compEnvC scope cl C X.env) fp) tg1 iter1 (tI X.K Tb W0 fi1))
    (hg1 : ∀ (s : Shared) (H : Hp) (C : Addr) (cl : List (Str × Addr)) (fp : List Addr), PG (X.blk s H scope (compEnvC scope cl C X.env) fp) tg1 (tG X.K Tb t1))
    (ht1 : ∀ (s : Shared) (H : Hp) (C : Addr) (cl : List (Str × Addr)) (fp : List Addr), PTs (X.blk s H scope (compEnvC scope cl C X.env) fp) ifs1 (tDT X.K Tb W0 ft1))
    (he : ∀ (s : Shared) (H : Hp) (C : Addr) (cl : List (Str × Addr)) (fp : List Addr), PE (X.blk s H scope (compEnvC scope cl C X.env) fp) elt (tD X.K Tb W0 fe))
    (hvv : ∀ i ∈ vs1, i ∈ own.map (·.2) := by decide) (hv : ∀ i ∈ t.ixs, i ∈ own.map (·.2) := by decide) (hv1 : ∀ i ∈ t1.ixs, i ∈ vs1 := by decide) (hs : ∀ x, foldedSetIterable iter X.env x = pure x := by intro _; rfl) (hs1 : ∀ env x, foldedSetIterable iter1 env x = pure x := by intro _ _; rfl) :
    PE X (.ListComp elt [⟨tg, iter, ifs, 0⟩, ⟨tg1, iter1, ifs1, 0⟩] scope pos) (tD X.K Tb W (dLc2 fi t ft fi1 t1 ft1 fe (own.map (·.2)) vs1)) :=
  (pe_lc2 hc hN hi ok hvv hg ht hi1 hg1 ht1 he hs hs1).by fun σ H Q h => lc2_walk hv hv1 h
theorem fs_setLc2 {i : Nat} {y : Str} {py : Pos} {elt tg iter tg1 iter1 : Expr} {ifs ifs1 : List Expr} {scope : Scope} {own : List (Str × Nat)} {vs1 : List Nat} {pos spos : Pos} {fi fi1 : DnL} {t t1 : Tg} {ft ft1 : DnB} {fe : Dn} (hc : X.calm = true) (hN : X.N.Nodup) (hy : X.N[i]? = some y) (hyl : X.env.scope.names.lookup y = some .local)
    (hsw : swapsWith (.ListComp elt [⟨tg, iter, ifs, 0⟩, ⟨tg1, iter1, ifs1, 0⟩] scope pos) (some (.Name y py)) spos.line X.env = pure true) (hi : PI X tg iter (tI X.K Tb W fi)) (ok : BlkOk X.N X.env.scope scope own)
    (hg : ∀ (s : Shared) (H : Hp) (C : Addr) (cl : List (Str × Addr)) (fp : List Addr), PG (X.blk s H scope (compEnvC scope cl C X.env) fp) tg (tG X.K Tb t))
    (ht : ∀ (s : Shared) (H : Hp) (C : Addr) (cl : List (Str × Addr)) (fp : List Addr), PTs (X.blk s H scope (compEnvC scope cl C X.env) fp) ifs (tDT X.K Tb W0 ft))
    (hi1 : ∀ (s : Shared) (H : Hp) (C : Addr) (cl : List (Str × Addr)) (fp : List Addr), PI (X.blk s H scope (compEnvC scope cl C X.env) fp) tg1 iter1 (tI X.K Tb W0 fi1))
    (hg1 : ∀ (s : Shared) (H : Hp) (C : Addr) (cl : List (Str × Addr)) (fp : List Addr), PG (X.blk s H scope (compEnvC scope cl C X.env) fp) tg1 (tG X.K Tb t1))
    (ht1 : ∀ (s : Shared) (H : Hp) (C : Addr) (cl : List (Str × Addr)) (fp : List Addr), PTs (X.blk s H scope (compEnvC scope cl C X.env) fp) ifs1 (tDT X.K Tb W0 ft1))
    (he : ∀ (s : Shared) (H : Hp) (C : Addr) (cl : List (Str × Addr)) (fp : List Addr), PE (X.blk s H scope (compEnvC scope cl C X.env) fp) elt (tD X.K Tb W0 fe))
    (hvv : ∀ i ∈ vs1, i ∈ own.map (·.2) := by decide) (hv : ∀ i ∈ t.ixs, i ∈ own.map (·.2) := by decide) (hv1 : ∀ i ∈ t1.ixs, i ∈ vs1 := by decide) (hs : ∀ x, foldedSetIterable iter X.env x = pure x := by intro _; rfl) (hs1 : ∀ env x, foldedSetIterable iter1 env x = pure x := by intro _ _; rfl) :
    PS X (.Assign [.Name y py] (.ListComp elt [⟨tg, iter, ifs, 0⟩, ⟨tg1, iter1, ifs1, 0⟩] scope pos) spos) (tS X.K Tb W (gSet (dLc2 fi t ft fi1 t1 ft1 fe (own.map (·.2)) vs1) (.nm i))) :=
  (ps_setLc2 hc hN hy hyl hsw hi ok hvv hg ht hi1 hg1 ht1 he hs hs1).by fun D σ H ⟨H0, O0, O, ρ, st, h⟩ => lc2_walk (W := W) (Q := fun x H1 => gName i x σ H1 D.nx) hv hv1 ⟨H0, O0, O, ρ, st, oR_post st h fun d v H1 e r k => by
    unfold Tg.set at k
    exact k O _ H1 ((st.step e).set r)⟩
end
end PD
set_option Elab.async false
set_option linter.all false
set_option maxRecDepth 100000
set_option maxHeartbeats 1000000
namespace PD
open PySem PySem.Spec PyProof.Rows L2
def gSetAt (i : Nat) (fi fe : Dn) : Sn := fun ρ => oR (fe ρ) ρ fun y => ownAt ρ i fun ds => match fi ρ with
  | .ok (.int k) => match ixN ds.length k with
    | some j => .nx (ρ.set i (some (.own (ds.set j y))))
    | none => .bad
  | _ => .bad
end PD
set_option Elab.async false
set_option linter.all false
set_option maxRecDepth 100000
set_option maxHeartbeats 1000000
namespace PD
open PySem PySem.Spec PyProof.Rows L2
end PD
set_option Elab.async false
set_option linter.all false
set_option maxRecDepth 100000
namespace PD
open PySem PySem.Spec PyProof.Rows L2
abbrev setNew (w : World) : Obj := { cls := .type "set", dict := none, data := .set #[] 0 (.fresh 0 0 (!w.params.followText "set-order")) }
section
variable {P : Program} {w : World} {A : Around} {E : Value → Shared → Prop} {s : Shared}
set_option maxRecDepth 100000 in
set_option maxHeartbeats 3200000 in
theorem set_of_list {l : Addr} {its : Array Value} (ks : List Int) {Q : Value → Shared → Prop} (free : A.handled = none) (isl : s.heap.IsList l its) (hin : IntsAre its.toList ks) (few : ks.length + 1 < scanBound)
    (next : ∀ (h' : Heap) (tk c : Nat), SetR w h' s.heap.objs.size (fun j => decide (j ∈ ks)) c → c ≤ ks.length → (∀ b o, s.heap.get? b = some o → h'.get? b = some o) → Q (.ref s.heap.objs.size) { s with heap := h', toks := tk }) :
    wpAny (model P w) A (call (.type "set") [.ref l]) Q E s := by
  have len : its.size = ks.length := by have q := IntsAre.length hin; rwa [Array.length_toList] at q
  obtain ⟨cc, tl, mro⟩ := F.called_set.mro
  have made := F.called_set.made
  have sub := F.called_set.sub
  refine wpAny_call (codeAny_of_tree (show wpAny _ _ (callAny (.type "set") _) _ _ _ from wpAny_pure ⟨Code.quiet_builtin _ (by decide +kernel), codeAny_builtin F.entry_type_call ?_⟩))
  rw [Around.under_plain (weight_type_call_type "set" [.ref l] []) rfl]
  have notT := F.called_set.notType
  have can := F.called_set.canCreate
  have args1 := F.typeCall_set_1 (.ref l)
  repeat any_goals first | assumption | wp_step
  refine codeAny_mono (code_set_led1 (.ref l) (E := E) (Q₁ := fun v s₁ => v = .ref s.heap.objs.size ∧ s₁ = { s with heap := s.heap.push (setNew w) }) ⟨rfl, rfl⟩) fun r s₁ hr => ?_
  rcases r with e | fl
  · exact hr
  rcases fl with v | _ | _ | _
  all_goals first | exact hr.elim | skip
  obtain ⟨rfl, rfl⟩ := hr
  have at0 : (s.heap.push (setNew w)).get? s.heap.objs.size = some (setNew w) := Heap.get?_push_size _ rfl
  have isT : Shared.TypeIs { s with heap := s.heap.push (setNew w) } (.ref s.heap.objs.size) "set" := ⟨_, at0, rfl⟩
  have look := F.called_set.init.lookup
  have bind := F.called_set.init.bind (.ref s.heap.objs.size)
  repeat any_goals first | assumption | wp_step
  let Done : Value → Shared → Prop := fun r s₂ => r = .none ∧ ∃ h' tk c, s₂ = { s with heap := h', toks := tk } ∧ SetR w h' s.heap.objs.size (fun j => decide (j ∈ ks)) c ∧ c ≤ ks.length ∧ ∀ b o, s.heap.get? b = some o → h'.get? b = some o
  refine codeAny_mono (codeAny_call_builtin (R := wants Done E) F.called_set.init.plain F.entry_set_init (check_set_init_1 isT ?_)) fun r₂ s₂ hr₂ => ?_
  · obtain ⟨ol, hol, hcl, nl, hdl⟩ := isl
    obtain ⟨k1, k2, k3, k4⟩ := ol
    simp only at hcl hdl
    subst hcl
    subst hdl
    have hol' : (s.heap.push (setNew w)).get? l = some { cls := .type "list", dict := k2, data := .seq its nl, slots := k4 } := Heap.get?_push_of_some _ hol
    have no1 := F.sub_list_set
    have no2 := F.sub_list_frozenset
    have no3 : (Value.type "list" == Value.type "dict") = false := by decide
    have isl1 : (s.heap.push (setNew w)).IsList l its := ⟨_, hol', rfl, nl, rfl⟩
    unfold Builtin.«set.__init__» Builtin.Frozenset.updateFrom noKeywords
    generalize hPI : pyIter = PI
    wp_walk
    subst hPI
    refine wpAny_pyIter_list isl1 (wpAny_bind (wpAny_runValue ?_))
    have below : l < s.heap.objs.size := Heap.lt_size hol
    have free3 : A.in1.in1.in1.handled = none := by simp [free]
    have neI : l ≠ (s.heap.push (setNew w)).objs.size := by rw [Heap.size_push]; exact Nat.ne_of_lt (Nat.lt_succ_of_lt below)
    have notIn : s.heap.objs.size ∉ [(s.heap.push (setNew w)).objs.size, l] := by
      rw [Heap.size_push]
      intro z
      rcases List.mem_cons.mp z with z | z
      · exact absurd z (Nat.ne_of_lt (Nat.lt_succ_self _))
      · exact absurd (List.mem_singleton.mp z) (Nat.ne_of_gt below)
    have val : ∀ (i : Nat) (v : Value), its[i]? = some v → ∃ k t, ks[i]? = some k ∧ v = .int k t := fun i v hv => by
      have hi : i < ks.length := by rw [← len]; exact (Array.getElem?_eq_some_iff.mp hv).1
      obtain ⟨t, e⟩ := PyProof.Rows.IntsAre.int_at hin i v (by rw [Array.getElem?_toList]; exact hv)
      exact ⟨ks[i], t, List.getElem?_eq_getElem hi, by rw [e, List.getD_eq_getElem?_getD, List.getElem?_eq_getElem hi]; rfl⟩
    refine set_update_ints ((Walks.list free3 _ l neI its).toS) s.heap.objs.size notIn ks len few val (its.size - 0) 0 _ (by omega) (Nat.zero_le _) ⟨⟨_, Heap.get?_push_size _ rfl, rfl, rfl⟩, (isl1.push _)⟩ ?first ?last
    case first => exact ⟨0, Nat.le_refl 0, setR_new_at (Heap.get?_push_of_some _ at0)⟩
    case last =>
      intro s' c' hm hc' hS'
      obtain ⟨h', g2, d', tk', os'⟩ := s'
      have eg : g2 = s.gens := hm.gens
      have ed : d' = s.drawn := hm.drawn
      have eo : os' = s.os := hm.os
      subst eg
      subst ed
      subst eo
      refine (show wpAny _ _ _ _ _ _ from wpAny_pure ?_)
      rw [len] at hc'
      refine (show wpAny _ _ (ret Value.none) _ _ _ from wpAny_pure ⟨rfl, h', tk', c', rfl, hS', hc', fun b o e => ?_⟩)
      have b0 : b < s.heap.objs.size := Heap.lt_size e
      have b2 : b ≠ (s.heap.push (setNew w)).objs.size := by rw [Heap.size_push]; exact Nat.ne_of_lt (Nat.lt_succ_of_lt b0)
      refine hm.heap b o (fun z => ?_) (Heap.get?_push_of_some _ (Heap.get?_push_of_some _ e))
      rcases List.mem_cons.mp z with z | z
      · exact Nat.ne_of_lt b0 z
      · exact b2 (List.mem_singleton.mp z)
  · rcases r₂ with e | fl₂
    · exact hr₂
    · rcases fl₂ with v | _ | _ | _
      all_goals first | exact hr₂.elim | skip
      obtain ⟨rfl, h', tk, c, rfl, hS', hc, hk'⟩ := hr₂
      repeat any_goals first | assumption | wp_step
      exact next _ _ _ hS' hc hk'
end
end PD
set_option Elab.async false
set_option linter.all false
set_option maxRecDepth 100000
set_option maxHeartbeats 1000000
namespace PD
open PySem PySem.Spec PyProof.Rows L2
def insU (x : Int) : List Int → List Int
  | [] => [x]
  | y :: l => if x < y then x :: y :: l else if x = y then y :: l else y :: insU x l
def uniq (l : List Int) : List Int := l.foldr insU []
theorem mem_insU {x z : Int} : ∀ {l : List Int}, z ∈ insU x l ↔ z = x ∨ z ∈ l
  | [] => by simp [insU]
  | y :: l => by
    unfold insU
    split
    · rw [List.mem_cons]
    · split
      · rename_i h; subst h; rw [List.mem_cons]; constructor
        · exact fun a => .inr a
        · rintro (a | a)
          · exact .inl a
          · exact a
      · rw [List.mem_cons, mem_insU (l := l), List.mem_cons]
        constructor
        · rintro (a | a | a)
          · exact .inr (.inl a)
          · exact .inl a
          · exact .inr (.inr a)
        · rintro (a | a | a)
          · exact .inr (.inl a)
          · exact .inl a
          · exact .inr (.inr a)
theorem insU_asc {x : Int} : ∀ {l : List Int}, l.Pairwise (· < ·) → (insU x l).Pairwise (· < ·)
  | [], _ => List.pairwise_singleton _ _
  | y :: l, h => by
    obtain ⟨h1, h2⟩ := List.pairwise_cons.mp h
    unfold insU
    split
    · rename_i q
      refine List.pairwise_cons.mpr ⟨fun z hz => ?_, h⟩
      rcases List.mem_cons.mp hz with e | e
      · omega
      · have := h1 z e; omega
    · split
      · exact h
      · refine List.pairwise_cons.mpr ⟨fun z hz => ?_, insU_asc h2⟩
        rcases mem_insU.mp hz with e | e
        · omega
        · exact h1 z e
theorem uniq_asc (l : List Int) : (uniq l).Pairwise (· < ·) := by
  unfold uniq
  induction l with
  | nil => exact .nil
  | cons x l ih => exact insU_asc ih
theorem mem_uniq {l : List Int} {z : Int} : z ∈ uniq l ↔ z ∈ l := by
  unfold uniq
  induction l with
  | nil => simp
  | cons x l ih => rw [List.foldr_cons, mem_insU, ih, List.mem_cons]
theorem asc_uniq {a b : List Int} (ha : a.Pairwise (· < ·)) (hb : b.Pairwise (· < ·)) (h : ∀ z, z ∈ a ↔ z ∈ b) : a = b :=
  List.Perm.eq_of_pairwise (le := fun x y : Int => x < y) (fun x y _ _ h1 h2 => by omega) ha hb ((List.perm_ext_iff_of_nodup (ha.imp fun {x y} h e => by omega) (hb.imp fun {x y} h e => by omega)).mpr h)
theorem boot_set2 : bootBuiltins "set" = some (.type "set") := by decide +kernel
end PD
set_option Elab.async false
set_option linter.all false
set_option maxRecDepth 100000
set_option maxHeartbeats 1000000
namespace PD
open PySem PySem.Spec PyProof.Rows L2
section
variable {K : PySem.W.Frag} {Tb : List Addr} {W : WX} {H0 H0' H H' : Hp} {O0 O : List Addr} {ρ : Rho} {σ : L2.St} {p : Addr} {D : Ends}
/-- the object that slot i owns changes -/
theorem St0.holdSet {i : Nat} {s0 s1 : Sl} {o o' : HO} (z0 : s0.Hold) (z1 : s1.Hold) (st : St0 K Tb H0 O0 O H σ ρ) (hi : ρ[i]? = some (some s0)) (hp : σ[i]? = some (some (.ref p))) (hH : H p = some o) (po : Plain o) (po' : Plain o') (nx : ∀ fs, o ≠ .xd fs) (r : SlotR K O0 O (upd H p o') (.ref p) s1) :
    St0 K Tb H0 O0 O (upd H p o') σ (ρ.set i (some s1)) := by
  obtain ⟨m, m0⟩ := st.hold z0 hi hp
  have il : i < ρ.length := (List.getElem?_eq_some_iff.mp hi).1
  have own : ∀ (j : Nat) (s : Sl), s.Hold → j ≠ i → ρ[j]? = some (some s) → σ[j]? ≠ some (some (.ref p)) := fun j s hs hj h1 h2 => hj (st.inj j i p s s0 hs z0 h1 hi h2 hp)
  refine ⟨st.ext.updN (st.new p m m0) (fun c q z => po.1 c q (Option.some.inj (hH.symm.trans z))), st.sub, st.new, fun b h => ?_, fun P mp => ?_, fun b mb nb => ?_, by rw [List.length_set]; exact st.len, fun j x h => ?_, fun j k q xs ys hx hy h1 h2 h3 h4 => ?_⟩
  · by_cases hb : b = p
    · rw [hb, upd_same]; simp
    · rw [upd_ne hb]; exact st.al b h
  · have hb : P ≠ p := tabG_ne (st.tab P mp) fun ps q => by rw [hH] at q; exact po.2 ps (Option.some.inj q)
    exact (st.tab P mp).mono (fun ps h => by rw [upd_ne hb]; exact h) fun c q h => by
      rw [upd_ne fun z => po.1 c q (Option.some.inj (hH.symm.trans (by rw [← z]; exact h)))]
      exact h
  · by_cases hb : b = p
    · exact ⟨_, by rw [hb]; exact upd_same, po'⟩
    · obtain ⟨x, h, q⟩ := st.pln b mb nb
      exact ⟨x, by rw [upd_ne hb]; exact h, q⟩
  · by_cases e : i = j
    · subst e
      rw [List.getElem?_set_self il] at h
      cases h
      exact ⟨_, hp, r⟩
    · rw [List.getElem?_set_ne e] at h
      obtain ⟨v, h1, h2⟩ := st.slot j x h
      refine ⟨v, h1, h2.mv (by rw [hide_upd m]; exact fun _ _ h _ => h) (fun hx q ev mq _ => ⟨mq, fun o hq _ => ?_⟩) fun dd fs h => ?_⟩
      · have hne : q ≠ p := fun e2 => own j x hx (fun z => e z.symm) h (by rw [h1, ev, e2])
        rw [upd_ne hne]; exact hq
      · rw [upd_ne (fun e => by rw [e, hH] at h; exact nx fs (Option.some.inj h))]; exact h
  · have g : ∀ (j : Nat) (s : Sl), s.Hold → (ρ.set i (some s1))[j]? = some (some s) → ∃ s', s'.Hold ∧ ρ[j]? = some (some s') := fun j s hs h => by
      by_cases e : i = j
      · subst e; exact ⟨s0, z0, hi⟩
      · rw [List.getElem?_set_ne e] at h; exact ⟨s, hs, h⟩
    obtain ⟨xs', x1, g1⟩ := g j xs hx h1
    obtain ⟨ys', y1, g2⟩ := g k ys hy h2
    exact st.inj j k q xs' ys' x1 y1 g1 g2 h3 h4
/-- a new object becomes slot i's own -/
theorem St0.holdNew {i : Nat} {s1 : Sl} {o : HO} (st : St0 K Tb H0 O0 O H σ ρ) (e : Ext H H') (n : H p = none) (hp : H' p = some o) (po : Plain o) (r : SlotR K O0 (p :: O) H' (.ref p) s1) :
    St0 K Tb H0 O0 (p :: O) H' (σ.set i (some (.ref p))) (ρ.set i (some s1)) := by
  have nO : p ∉ O := st.fresh n
  have n0 : H0 p = none := by
    cases q : H0 p with
    | none => rfl
    | some x => exact absurd n (st.ext.al p (by rw [q]; simp))
  have sub : Sub (hide O H) (hide (p :: O) H') := fun b o h t => by
    obtain ⟨h1, h2⟩ := hide_some h
    have hb : b ≠ p := ne_of_none h2 n
    rw [hide_out (by rw [List.mem_cons, not_or]; exact ⟨hb, h1⟩)]
    exact e.keep b o h2 t
  have nown : ∀ (j : Nat) (s : Sl), s.Hold → ρ[j]? = some (some s) → σ[j]? ≠ some (some (.ref p)) := fun j s hs h h2 => nO (st.hold hs h h2).1
  refine ⟨st.ext.trans e, fun b h => List.mem_cons_of_mem _ (st.sub b h), fun b h h2 => ?_, fun b h => ?_, fun P m => e.tab P (st.tab P m), fun b mb nb => ?_, by rw [List.length_set, List.length_set]; exact st.len, fun j s h => ?_, fun j k q xs ys hx hy h1 h2 h3 h4 => ?_⟩
  · rcases List.mem_cons.mp h with rfl | h
    · exact n0
    · exact st.new b h h2
  · rcases List.mem_cons.mp h with rfl | h
    · rw [hp]; simp
    · exact e.al b (st.al b h)
  · rcases List.mem_cons.mp mb with rfl | mb
    · exact ⟨_, hp, po⟩
    · obtain ⟨x, h, q⟩ := st.pln b mb nb
      exact ⟨x, e.keep b x h q.2, q⟩
  · by_cases ej : i = j
    · subst ej
      have il : i < ρ.length := by
        have := (List.getElem?_eq_some_iff.mp h).1
        rw [List.length_set] at this
        exact this
      rw [List.getElem?_set_self il] at h
      cases h
      exact ⟨_, by rw [List.getElem?_set_self (by rw [st.len]; exact il)], r⟩
    · rw [List.getElem?_set_ne ej] at h ⊢
      obtain ⟨v, h1, h2⟩ := st.slot j s h
      exact ⟨v, h1, h2.mv sub (fun _ q _ mq _ => ⟨List.mem_cons_of_mem _ mq, fun o hq n => e.keep q o hq n⟩) fun dd fs h => e.keep dd _ h fun _ z => by cases z⟩
  · have lt : ∀ (j : Nat) (s : Sl), i = j → (ρ.set i (some s1))[j]? = some (some s) → j < σ.length := fun j xs ej h => by
      have := (List.getElem?_eq_some_iff.mp h).1
      rw [List.length_set] at this
      rw [st.len]; exact this
    by_cases ej : i = j
    · by_cases ek : i = k
      · rw [← ej, ← ek]
      · subst ej
        rw [List.getElem?_set_self (lt _ _ rfl h1)] at h3
        cases h3
        rw [List.getElem?_set_ne ek] at h2 h4
        exact absurd h4 (nown k ys hy h2)
    · by_cases ek : i = k
      · subst ek
        rw [List.getElem?_set_self (lt _ _ rfl h2)] at h4
        cases h4
        rw [List.getElem?_set_ne ej] at h1 h3
        exact absurd h3 (nown j xs hx h1)
      · rw [List.getElem?_set_ne ej] at h1 h3
        rw [List.getElem?_set_ne ek] at h2 h4
        exact st.inj j k q xs ys hx hy h1 h2 h3 h4
end
theorem dctO_xd {a : Addr} {ep : Nat} {xs : List (List Int × Addr)} : ∀ fs, dctO a ep xs ≠ .xd fs := fun _ z => by cases z
/-- x = {} -/
def gNewD (i : Nat) : Sn := fun ρ => .nx (ρ.set i (some (.dct [])))
def dctAt (ρ : Rho) (i : Nat) (k : List (List Int) → Out) : Out := match ρ[i]? with
  | some (some (.dct ds)) => k ds
  | _ => .bad
/-- x[e] = True -/
def gPutD (i : Nat) (f : Dn) : Sn := fun ρ => dctAt ρ i fun ks => oR (f ρ) ρ fun d => match asTu d with
  | some k => if ks.length < sizeLine then .nx (ρ.set i (some (.dct (if k ∈ ks then ks else ks ++ [k])))) else .bad
  | none => .bad
/-- y = x.pop() -/
def gSetPop (j i : Nat) : Sn := fun ρ => ownAt ρ i fun ds => match ds.getLast? with
  | some d => .nx ((ρ.set i (some (.own ds.dropLast))).set j (some (.d d)))
  | none => .bad
/-- x.extend(e) -/
def gExt (i : Nat) (f : Dn) : Sn := fun ρ => ownAt ρ i fun ds => oR (f ρ) ρ fun d => match d with
  | .list es => if ds.length + es.length ≤ sizeLine then .nx (ρ.set i (some (.own (ds ++ es)))) else .bad
  | _ => .bad
def tDNewC : TE := fun _ H Q => ∀ p, H p = none → Q (.ref p) (upd H p (dctO p 0 []))
def rPutT (K : PySem.W.Frag) : V → V → V → Hp → (Hp → Prop) → Prop := fun o i v H Q => ∃ D b k ep xs, o = .ref D ∧ i = .ref b ∧ v = .bl true ∧ H D = some (dctO D ep xs) ∧ (∀ x ∈ xs, SqT K H x.2 (x.1.map V.int)) ∧ xs.length < sizeLine ∧ SqT K H b (k.map V.int) ∧ ∀ ep', Q (upd H D (dctO D ep' (putT xs k b)))
def rExtL (K : PySem.W.Frag) : V → List V → Hp → VK → Prop := fun x vs H Q => ∃ l b xs zs, x = .ref l ∧ vs = [.ref b] ∧ H l = some (.lst xs) ∧ SqL K H b zs ∧ xs.length + zs.length ≤ sizeLine ∧ Q .non (upd H l (.lst (xs ++ zs)))
theorem list_extend_any (l : Addr) (items : Array Value) (n : Nat) (b : Addr) (items2 : Array Value) (n2 : Nat) (sl2 : Array (Option Value)) (hc0 : ¬(!items.isEmpty && Builtin.List.listTooLong (items.size + items2.size)) = true) (hc1 : items.size ≤ sizeLine) (hs2 : items.size + items2.size ≤ sizeLine + 1) :
    Meets (Builtin.«list.extend» ⟨[.ref l, .ref b], []⟩) (fun _ R s => s.heap.get? l = some { cls := .type "list", dict := none, data := .seq items n, slots := #[] } ∧ s.heap.get? b = some { cls := .type "list", dict := none, data := .seq items2 n2, slots := sl2 } ∧ R (.ok (.ret Value.none)) { s with heap := s.heap.update l (Obj.mapSeq fun x => x ++ items2), toks := s.toks }) :=
  .of_wp fun prog w A R s h => by
    obtain ⟨hp, g, d, tk, os⟩ := s; obtain ⟨hl, hb, h⟩ := h; have f1 := AutoSeq1.idx_int; have f2 := AutoSeq1.sub_tuple_tuple; have f3 := AutoSeq1.sub_list_list; have f4 := AutoSeq1.sub_tuple_list; have f5 := AutoSeq1.sub_list_tuple;
    have hz' : (items ++ items2).size ≤ sizeLine + 1 := by rw [Array.size_append]; exact hs2
    wp_walk using (wpAny_updateSeq hl rfl (hz := hc1) (_hz' := hz')), AutoSeq1.wpAny_loadPart' hl, AutoSeq1.wpAny_loadPart' hb; exact ⟨_, rfl, h⟩
section
variable {X : Cx} {pos : Pos}
theorem pe_dnewC : PE X (.Dict [] [] pos) tDNewC := ⟨fun pins s σ H Q I h =>
  wpAny_Dict_empty ⟨.ref s.heap.objs.size, _, I.laid (a := s.heap.objs.size) (o := dctO s.heap.objs.size 0 []) (t' := s.toks) (fun _ _ q => Heap.get?_push_of_some _ q) (Nat.le_refl _) (dct_new s.heap I.big), rfl, h _ (I.hok.fresh (Nat.le_refl _))⟩⟩
theorem set_dctT (hu : X.A.units + 65 < cLine) : PSet X (rPutT X.K) := by
  intro pins s σ H o i v ov iv u Q I ro ri rv h
  obtain ⟨D, b, k, ep, xs, rfl, rfl, rfl, hD, hk, hz, hb, q⟩ := h
  cases ro; cases ri; cases rv
  obtain ⟨h1, h2, d⟩ := dct_at I hD hk
  refine wpAny_setItem_heap (hsz := by rw [List.length_map]; exact h2) (tupleKind_room_in1 (show X.A.units + 1 < cLine by omega)) (key_is I hb) d fun h' d' hs => ?_
  rw [stored_kvT] at d'
  have he : ∃ q, h'.get? D = some q := let ⟨q, _, _, hq, _⟩ := d'; ⟨q, hq⟩
  obtain ⟨ep', ok⟩ := dct_ok (P := X.prog) (w := X.w) (H' := H) h1 (by have := putT_len xs k b; omega) d'
  exact ⟨_, I.write (x := D) (e := D) (by rw [hD]; trivial) (.inl rfl) (fun b q hb z => (hs.2 b hb).trans z) he (dct_any ok), q ep'⟩
theorem mt_extL : MtM X "list.extend" (rExtL X.K) := by
  intro pins s σ H x vs v us Q I rx rv h
  obtain ⟨l, b, xs, zs, rfl, rfl, hH, hB, hz, q⟩ := h
  cases rx
  obtain ⟨u, rfl, ru⟩ := rv.one
  cases ru
  obtain ⟨z, its, n, r, hl, e⟩ := I.lstM hH
  obtain ⟨its2, r2, ⟨o2, n2, e2, c2, d2, s2⟩, z2⟩ := I.list hB
  have hl2 : zs.length = its2.length := r2.length
  obtain ⟨c, dd, dt, sl⟩ := o2
  dsimp only at c2 d2 s2
  subst c2 d2 s2
  have hsz : its.toArray.size + its2.toArray.size ≤ sizeLine := by rw [List.size_toArray, List.size_toArray]; omega
  have hlong : ¬ (!its.toArray.isEmpty && Builtin.List.listTooLong (its.toArray.size + its2.toArray.size)) = true := by
    rw [notLongL hsz, Bool.and_false]
    exact Bool.false_ne_true
  refine call_meets F.slot_list_extend ⟨_, e, rfl⟩ F.entry_list_extend (F.args_list_extend_2 _ _)
    (list_extend_any l its.toArray n b its2.toArray n2 sl hlong (by rw [List.size_toArray]; omega) (by omega)) ⟨e, e2, ?_⟩
  refine ⟨.non, _, I.lset (its' := its ++ its2) hH e (by simp) (r.append r2) ?_, rfl, q⟩
  rw [List.length_append]
  omega
end
section
variable {X : Cx} {Tb : List Addr} {W : WX} {e : Expr} {es : List Expr} {f : Dn} {gl : DnL} {pos p : Pos} {x : Str}
theorem fs_newD {i : Nat} {pos' dpos : Pos} (hN : X.N.Nodup) (hi : X.N[i]? = some x) (hx : Loc X.env.scope x) (hs : swapsWith (.Dict [] [] dpos) (some (.Name x pos')) pos.line X.env = pure false := by rfl)
    (hf : X.fn x = true ∨ X.env.scope.names.lookup x = some .local := by first | exact .inl rfl | exact .inr rfl | assumption) : PS X (.Assign [.Name x pos'] (.Dict [] [] dpos) pos) (tS X.K Tb W (gNewD i)) := (ps_set hN hi hx pe_dnewC hs hf).by fun D σ H ⟨H0, O0, O, ρ, st, h⟩ => fun p hp => h (p :: O) _ _ (st.holdNew (Ext.new hp) hp upd_same (plain_dct p 0 []) ⟨p, 0, [], rfl, List.mem_cons_self, fun m => st.fresh hp (st.sub p m), upd_same, rfl, fun _ h => nomatch h⟩)
theorem dct_atS {K : PySem.W.Frag} {H0 H : Hp} {O0 O : List Addr} {ρ : Rho} {σ : L2.St} {D : Ends} {i : Nat} {k : List (List Int) → Out} (st : St0 K Tb H0 O0 O H σ ρ) (h : PostS K Tb W H0 O0 (dctAt ρ i k) D) :
    ∃ ks p ep xs, ρ[i]? = some (some (.dct ks)) ∧ σ[i]? = some (some (.ref p)) ∧ H p = some (dctO p ep xs) ∧ xs.map (·.1) = ks ∧ (∀ x ∈ xs, SqT K (hide O H) x.2 (x.1.map V.int)) ∧ p ∈ O ∧ p ∉ O0 ∧ PostS K Tb W H0 O0 (k ks) D := by
  unfold dctAt at h
  split at h
  · rename_i ks e
    obtain ⟨v, h1, p, ep, xs, rfl, m, m0, hp, z, r⟩ := st.slot i _ e
    exact ⟨ks, p, ep, xs, e, h1, hp, z, r, m, m0, h⟩
  · exact h.elim
theorem fs_putD {i k : Nat} {tj : Nat} {npos spos tpos : Pos} (hr : Room k X.A) (ho : X.N[i]? = some x) (hv : Vis X.env.scope x) (hd : (x == ("__debug__" : Str)) = false) (hcd : (x == ("__classdict__" : Str)) = false) (hi : PE X e (tD X.K Tb W f))
    (ha : ∀ v, assign (.Subscript (.Name x npos) e spos) X.env v = (do
      let ov ← holding [v] (eval (.Name x npos) X.env)
      let iv ← holding [v, ov] (eval e X.env)
      standAt spos
      holding [v, ov, iv] (setItem ov iv v)
      release [v, ov, iv] []) := by intro _; rfl)
    (hs : swapsWithSole [.Subscript (.Name x npos) e spos] (.Constant (.bool true) tj tpos) pos.line X.env = pure false := by rfl) (hw : swappedStores [.Subscript (.Name x npos) e spos] (.Constant (.bool true) tj tpos) X.env = pure none := by rfl)
    (h1 : (assignEach [.Subscript (.Name x npos) e spos] X.env).map (·.2) = [assign (.Subscript (.Name x npos) e spos) X.env] := by rfl) :
    PS X (.Assign [.Subscript (.Name x npos) e spos] (.Constant (.bool true) tj tpos) pos) (tS X.K Tb W (gPutD i f)) :=
  (ps_asg pe_bl (pg_sub (pe_var ho hv hd hcd) hi (set_dctT hr.u65) ha) hs hw h1).by fun D σ H ⟨H0, O0, O, ρ, st, h⟩ => by
    obtain ⟨ks, p, ep, xs, e1, e2, hp, z, r, m, m0, k⟩ := dct_atS st h
    refine ⟨.ref p, e2, H0, O0, O, ρ, st, oR_post st k fun y v H1 ex rv k => ?_⟩
    split at k
    · rename_i key hk
      split at k
      · rename_i hl
        obtain ⟨b, rfl, hb⟩ := asTu_rp rv hk
        have hp1 := ex.keep p _ hp (fun _ q => by cases q)
        have r1 : ∀ x ∈ xs, SqT X.K (hide O H1) x.2 (x.1.map V.int) := fun x hx => (Sub.hide ex.keep).sqT (r x hx)
        refine ⟨p, b, key, ep, xs, rfl, rfl, rfl, hp1, fun x hx => Sub.unhide.sqT (r1 x hx), by rw [← List.length_map (f := (·.1)), z]; exact hl, Sub.unhide.sqT hb, fun ep' => k O σ _ ((st.step ex).holdSet (s0 := .dct ks) trivial trivial e1 e2 hp1 (plain_dct p ep xs) (plain_dct p _ _) dctO_xd ⟨p, _, _, rfl, m, m0, upd_same, by rw [putT_keys, z], fun x hx => ?_⟩)⟩
        rw [hide_upd m]
        rcases putT_mem hx with hx | rfl
        · exact r1 x hx
        · exact hb
      · exact k.elim
    · exact k.elim
theorem fs_setPop {i j : Nat} {y : Str} {apos npos cpos ypos : Pos} (hN : X.N.Nodup) (hj : X.N[j]? = some y) (hy : Loc X.env.scope y) (ho : X.N[i]? = some x) (hv : Vis X.env.scope x) (hd : (x == ("__debug__" : Str)) = false) (hcd : (x == ("__classdict__" : Str)) = false) (hij : i ≠ j)
    (hbase : attributeBase (.Name x npos) "pop" X.env (eval (.Name x npos) X.env) = eval (.Name x npos) X.env) (hline : (apos.endLine == cpos.line) = true)
    (hs : swapsWith (.Call (.Attribute (.Name x npos) "pop" apos) [] [] cpos) (some (.Name y ypos)) pos.line X.env = pure false)
    (hf : X.fn y = true ∨ X.env.scope.names.lookup y = some .local := by first | exact .inl rfl | exact .inr rfl | assumption) :
    PS X (.Assign [.Name y ypos] (.Call (.Attribute (.Name x npos) "pop" apos) [] [] cpos) pos) (tS X.K Tb W (gSetPop j i)) :=
  (ps_set hN hj hy (pe_bm0 PySem.F.plainAttrs_list PySem.F.slot_list_pop PySem.F.type_list_pop mt_pop (pe_var ho hv hd hcd) hbase hline) hs hf).by fun D σ H ⟨H0, O0, O, ρ, st, h⟩ => by
    obtain ⟨ds, p, vs, e1, e2, hp, z, r, h⟩ := own_at st h
    split at h
    · rename_i d hd
      have n : ds ≠ [] := fun q => by rw [q] at hd; cases hd
      obtain ⟨y, d', hy, hd', ry⟩ := r.last n
      rw [List.getLast?_eq_getElem?] at hd
      rw [hd] at hd'
      cases hd'
      obtain ⟨_, h1q, p', vs', rfl, mO, m0, _⟩ := st.slot i _ e1
      rw [e2] at h1q
      cases h1q
      refine ⟨.ref p, e2, .inl ⟨rfl, vs, .of hp⟩, p, vs, y, rfl, rfl, hp, hy, ?_⟩
      exact h O _ _ ((st.ownSet e1 e2 (by rw [List.length_dropLast]; omega) r.dropLast).set (by rw [hide_upd mO]; exact ry))
    · exact h.elim
theorem fs_ext {i : Nat} {apos npos cpos : Pos} (ho : X.N[i]? = some x) (hv : Vis X.env.scope x) (hd : (x == ("__debug__" : Str)) = false) (hcd : (x == ("__classdict__" : Str)) = false) (ha : PE X e (tD X.K Tb W f))
    (hse : starEach [e] X.env = (false, eval e X.env) :: starEach [] X.env) (hbase : attributeBase (.Name x npos) "extend" X.env (eval (.Name x npos) X.env) = eval (.Name x npos) X.env)
    (hfew : ((backTo cpos (starEach [e] X.env)).all (fun x => !x.1) && (backToKw cpos (keywordEach [] X.env)).all (fun x => x.1.isSome)
      && decide (([e] : List Expr).length + ([] : List Keyword).length + (if ([] : List Keyword).isEmpty then 0 else 1) < 30)) = true)
    (hline : (apos.endLine == cpos.line) = true) (hplain : (backTo cpos (starEach [] X.env)).any (·.1) = false)
    (hs : swapsWith (.Call (.Attribute (.Name x npos) "extend" apos) [e] [] cpos) none pos.line X.env = pure false) :
    PS X (.Expr (.Call (.Attribute (.Name x npos) "extend" apos) [e] [] cpos) pos) (tS X.K Tb W (gExt i f)) :=
  (ps_expr (pe_bm PySem.F.plainAttrs_list PySem.F.slot_list_extend PySem.F.type_list_extend mt_extL (pe_var ho hv hd hcd) (pa_cons ha pa_nil hse) hbase hfew hline hse hplain) hs).by fun D σ H ⟨H0, O0, O, ρ, st, h⟩ => by
    obtain ⟨ds, p, vs, e1, e2, hp, z, r, h⟩ := own_at st h
    refine ⟨.ref p, e2, .inl ⟨rfl, vs, .of hp⟩, H0, O0, O, ρ, st, oR_post st h fun d v H1 ex rv k => ?_⟩
    split at k
    · rename_i es
      split at k
      · rename_i hl
        cases rv with
        | lst s1 z1 r1 =>
          refine ⟨p, _, vs, _, rfl, rfl, ex.keep p _ hp (fun _ q => by cases q), Sub.unhide.sqL s1, by rw [r.length, r1.length]; exact hl, k O σ _ ((st.step ex).ownSet e1 e2 (by rw [List.length_append]; exact hl) ?_)⟩
          exact (r.mono (Sub.hide ex.keep)).append r1
      · exact k.elim
    · exact k.elim
end
end PD
set_option Elab.async false
set_option linter.all false
set_option maxRecDepth 100000
set_option maxHeartbeats 1000000
namespace PD
open PySem PySem.Spec PyProof.Rows L2
def Itc (d : Addr) (ep : Nat) (xs : List (List Int × Addr)) : It :=
  ⟨fun i H => H d = some (dctO d ep xs) ∧ i < xs.length, fun i H x H' => H' = H ∧ ∃ (k : List Int) (q : Addr), xs[i]? = some (k, q) ∧ x = .ref q, fun i H => H d = some (dctO d ep xs) ∧ xs.length ≤ i⟩
section
variable {X : Cx} {pins : List (Addr × Obj)} {σ : L2.St} {H : Hp} {s : Shared}
theorem dct_obj (I : Inv X pins σ H s) {d : Addr} {ep : Nat} {xs : List (List Int × Addr)} (h : H d = some (dctO d ep xs)) :
    (d == sysModules) = false ∧ ∃ o es, s.heap.get? d = some o ∧ o.ExactDict ∧ o.data = .dict es ep ∧ es.size = xs.length ∧ ∀ (i : Nat) (k : List Int) (q : Addr), xs[i]? = some (k, q) → ∃ en : DictEntry, es[i]? = some en ∧ en.key = .ref q := by
  obtain ⟨⟨h1, h2, h3, o, es, e1, e2, e3, e4⟩, _, _⟩ := I.hok d _ h
  have e5 := e4 X.prog X.w
  refine ⟨h1, o, es, e1, e2, e3, ?_, fun i k q e => ?_⟩
  · rw [← Array.length_toList, e5, List.length_map]
  · have : es.toList[i]? = some (entryOfKey (ikt X.prog X.w) (k, q, .bool true)) := by rw [e5, List.getElem?_map, e]; rfl
    rw [Array.getElem?_toList] at this
    exact ⟨_, this, rfl⟩
end
theorem turn_dct {P : Program} {w : World} {K : PySem.W.Frag} {tg : Expr} {d : Addr} {ep : Nat} {xs : List (List Int × Addr)} (it : Addr) : Turn P w K tg (Itc d ep xs) [it] it (fun i h => h.IsKeyIter it d i xs.length ep) where
  mem := by simp
  obj := fun i h st b hb => by
    have e : b = it := by simpa using hb
    subst e
    obtain ⟨oi, e, c, dd⟩ := st
    exact ⟨oi, e, fun v z => by rw [dd] at z; cases z⟩
  keep := fun i h h' st k => st.at fun oi e => k it (by simp) oi e
  item := by
    intro X hP hw hK hc i pins s σ H E I hf st hg
    subst hP hw hK
    obtain ⟨hd, hi⟩ := hg
    obtain ⟨f0, f1, f2, f3, f4, f5⟩ := hf it (by simp)
    obtain ⟨hs, o, es, hgd, hx, hdt, hsz, ent⟩ := dct_obj I hd
    obtain ⟨⟨k, q⟩, hkv⟩ : ∃ p, xs[i]? = some p := ⟨xs[i], List.getElem?_eq_getElem hi⟩
    obtain ⟨en, hen, hkey⟩ := ent i k q hkv
    refine next_key_item st hgd hdt hsz hen fun h' st' sb => ?_
    have I1 : Inv X pins σ H { s with heap := h' } := I.turned (t' := s.toks) (fun b ob hb e => (sb.2 b hb).trans e) f0 f1 f3 f4 f5
    obtain ⟨oi, e, c, dd⟩ := id st'
    exact ⟨en.key, rfl, go_of (s := { s with heap := h' }) e c dd (by decide) ⟨.ref q, H, I1, hkey, ⟨rfl, k, q, hkv, rfl⟩, st', fun b hb => (hf b hb).1⟩⟩
  done := by
    intro X hP hw hK hc i pins s σ H E I hf st hg
    subst hP hw hK
    obtain ⟨hd, hi⟩ := hg
    obtain ⟨f0, f1, f2, f3, f4, f5⟩ := hf it (by simp)
    obtain ⟨hs, o, es, hgd, hx, hdt, hsz, ent⟩ := dct_obj I hd
    exact next_key_end (I.ok.hd hc) st hgd hdt hsz hi fun h' eb => ⟨rfl, I.turned (t' := s.toks) (fun b ob hb e => eb b ob hb e) f0 f1 f3 f4 f5⟩
  self := fun A i s Q E st h => by
    refine wpAny_pyIter_slot st.typeIs F.slot_dict_keyiterator_iter (wpAny_call_entry F.slot_dict_keyiterator_iter st.typeIs F.entry_dict_keyiterator_iter ?_ (F.args_dict_keyiterator_iter_1 _))
    show wpAny _ _ (ret (.ref it)) _ _ s
    exact wpAny_pure ⟨_, rfl, "dict_keyiterator", _, st.typeIs, F.slot_dict_keyiterator_next.lookup, h⟩
theorem pi_dct {X : Cx} {tg e : Expr} {td : TE} (he : PE X e td) : PI X tg e (fun σ H R => td σ H fun x H1 => ∃ d ep xs, x = .ref d ∧ H1 d = some (dctO d ep xs) ∧ R (Itc d ep xs) H1) := by
  refine ⟨fun pins s σ H R I h => ?_⟩
  refine thn (he.run pins s σ H _ I h) fun u s1 ⟨x, H1, I1, rx, d, ep, xs, ex, hd, q⟩ => ?_
  subst ex
  obtain rfl : u = Value.ref d := rx
  obtain ⟨hs, o, es, hgd, hx, hdt, hsz, ent⟩ := dct_obj I1 hd
  refine iter_keys hs hgd hx hdt (pi_one (tk := s1.toks) I1 _ (turn_dct _) ⟨_, Heap.get?_push_size _ rfl, rfl, ?_⟩ q)
  rw [hsz] <;> rfl
def keyOk (p : PyData × PyData) : Bool := match p.1 with
  | .tuple l => decide (l.length ≤ sizeLine)
  | _ => false
theorem dkD_keyOk (l : List (PyData × PyData)) : List.all ((.bool true, PyData.none) :: l) keyOk = false := rfl
theorem obD_keyOk (C : Addr) (l : List (PyData × PyData)) : List.all ((.none, .int (C : Int)) :: l) keyOk = false := rfl
def keysL : PyData → R (List PyData)
  | .dict kvs => if kvs.length ≤ sizeLine ∧ kvs.all keyOk = true then .ok (kvs.map (·.1)) else .bad
  | _ => .bad
def dKeys (f : Dn) : DnL := fun ρ => f ρ >>= keysL
theorem rp_intsV {K : PySem.W.Frag} {G : Hp} : ∀ k : List Int, RpAll K G (k.map V.int) (k.map .int)
  | [] => .nil
  | i :: k => .cons (.int i) (rp_intsV k)
theorem itd_dct {K : PySem.W.Frag} {G : Hp} {a : Addr} {ep : Nat} {xs : List (List Int × Addr)} (h : G a = some (dctO a ep xs)) (r : ∀ x ∈ xs, SqT K G x.2 (x.1.map V.int)) (z : xs.length ≤ sizeLine) (zk : ∀ x ∈ xs, x.1.length ≤ sizeLine) : ItD K G (Itc a ep xs) (xs.map fun x => .tuple (x.1.map .int)) where
  len := by rw [List.length_map]; exact z
  go := fun i H' e hi => by
    rw [List.length_map] at hi
    exact ⟨e.keep a _ h (fun _ q => by cases q), hi⟩
  yld := fun i H' O' x H'' e n al hi y => by
    obtain ⟨rfl, k, q, hkq, rfl⟩ := y
    have mem := List.mem_of_getElem? hkq
    refine ⟨Ext.refl _, .tuple (k.map .int), by rw [List.getElem?_map, hkq]; rfl, ?_⟩
    exact .tup ((e.under n).sqT (r _ mem)) (by rw [List.length_map]; exact zk _ mem) (rp_intsV k)
  stop := fun H' e => ⟨e.keep a _ h (fun _ q => by cases q), by rw [List.length_map]; exact Nat.le_refl _⟩
section
variable {X : Cx} {Tb : List Addr} {W : WX} {tg : Expr}
theorem fi_keys {l : Expr} {f : Dn} (hl : PE X l (tD X.K Tb W f)) : PI X tg l (tI X.K Tb W (dKeys f)) := (pi_dct hl).by fun σ H R ⟨H0, O0, O, ρ, st, h⟩ => ⟨H0, O0, O, ρ, st, by
  refine Post.then h fun d v H1 e r k => ?_
  unfold keysL at k
  split at k
  · split at k
    · rename_i z
      cases r with
      | dk _ _ _ => have := z.2; rw [dkD_keyOk] at this; cases this
      | ins _ _ _ => have := z.2; rw [obD_keyOk] at this; cases this
      | dct h1 a1 =>
        rename_i a ep xs
        refine ⟨_, _, _, rfl, (hide_some h1).2, k _ H1 (Ext.refl _) ?_⟩
        rw [List.map_map]
        refine itd_dct h1 a1 (by have := z.1; rwa [List.length_map] at this) fun x hx => ?_
        have := List.all_eq_true.mp z.2 (dctE x) (List.mem_map.mpr ⟨x, hx, rfl⟩)
        simpa [keyOk, dctE] using this
    · exact k.elim
  · exact k.elim⟩
end
end PD
set_option Elab.async false
set_option linter.all false
set_option maxRecDepth 100000
set_option maxHeartbeats 1000000
namespace PD
open PySem PySem.Spec PyProof.Rows L2
end PD
set_option Elab.async false
set_option linter.all false
set_option maxRecDepth 100000
set_option maxHeartbeats 1000000
namespace PD
open PySem PySem.Spec PyProof.Rows L2
end PD
namespace PD
open PySem PySem.Spec PyProof.Rows L2
end PD
namespace PD
open PySem PySem.Spec PyProof.Rows L2
end PD
set_option Elab.async false
set_option linter.all false
set_option maxRecDepth 100000
set_option maxHeartbeats 1000000
namespace PD
open PySem PySem.Spec PyProof.Rows L2
end PD
namespace PD
open PySem PySem.Spec PyProof.Rows L2
end PD
set_option Elab.async false
set_option linter.all false
set_option maxRecDepth 100000
namespace PD
open PySem PySem.Spec PySem.W PyProof.Rows
theorem kit_ty {K : Frag} {t : Value} {T : String} {v : Bool} (h2 : kitMeta T = true) (h4 : subIn K t (.type T) = some v) (d : (t == .type T) = false) :
    kitOne K t (.type T) = some v := by
  unfold kitOne
  rw [if_neg (by rw [d]; exact Bool.false_ne_true)]
  show (if kitMeta T = true then subIn K t (.type T) else none) = some v
  rw [if_pos h2]; exact h4
end PD
set_option Elab.async false
set_option linter.all false
set_option maxRecDepth 100000
namespace PD
open PySem PySem.Spec PyProof.Rows L2
end PD
set_option Elab.async false
set_option linter.all false
set_option maxRecDepth 100000
set_option maxHeartbeats 1000000
namespace PD
open PySem PySem.Spec PyProof.Rows L2
end PD
set_option Elab.async false
set_option linter.all false
set_option maxRecDepth 100000
set_option maxHeartbeats 1000000
namespace PD
open PySem PySem.Spec PySem.W PySem.Calls PyProof.Rows
end PD
set_option Elab.async false
set_option linter.all false
set_option maxRecDepth 100000
set_option maxHeartbeats 1000000
namespace PD
open PySem PySem.Spec PySem.W PySem.Calls PyProof.Rows
end PD
set_option Elab.async false
set_option linter.all false
set_option maxRecDepth 100000
set_option maxHeartbeats 1000000
namespace PD
open PySem PySem.Spec PySem.W PySem.Calls PyProof.Rows
end PD
set_option Elab.async false
set_option linter.all false
set_option maxRecDepth 100000
set_option maxHeartbeats 1000000
namespace PD
open PySem PySem.Spec PySem.W PySem.Calls PyProof.Rows
end PD
set_option Elab.async false
set_option linter.all false
set_option maxRecDepth 100000
set_option maxHeartbeats 1000000
namespace PD
open PySem PySem.Spec PyProof.Rows L2
end PD
set_option Elab.async false
set_option linter.all false
set_option maxRecDepth 100000
set_option maxHeartbeats 1000000
namespace PD
open PySem PySem.Spec PyProof.Rows L2
end PD
set_option Elab.async false
set_option linter.all false
set_option maxRecDepth 100000
set_option maxHeartbeats 1000000
namespace PD
open PySem PySem.Spec PyProof.Rows L2
end PD
set_option Elab.async false
set_option linter.all false
set_option maxRecDepth 100000
set_option maxHeartbeats 1000000
namespace PD
open PySem PySem.Spec PyProof.Rows L2 HotX L2H
end PD
namespace PD
open PySem PySem.Spec PyProof.Rows L2 HotX L2H
end PD
set_option Elab.async false
set_option linter.all false
set_option maxRecDepth 100000
set_option maxHeartbeats 1000000
namespace PD
open PySem PySem.Spec PyProof.Rows L2 HotX L2H
end PD
set_option Elab.async false
set_option linter.all false
set_option maxRecDepth 100000
set_option maxHeartbeats 1000000
namespace PD
open PySem PySem.Spec PyProof.Rows L2
end PD
set_option Elab.async false
set_option linter.all false
set_option maxRecDepth 100000
set_option maxHeartbeats 1000000
namespace PD
open PySem PySem.Spec PySem.W PySem.Calls PyProof.Rows L2
end PD
set_option Elab.async false
set_option linter.all false
set_option maxRecDepth 100000
set_option maxHeartbeats 1000000
namespace PD
open PySem PySem.Spec PyProof.Rows L2
end PD
set_option Elab.async false
set_option linter.all false
set_option maxRecDepth 100000
set_option maxHeartbeats 1000000
namespace PD
open PySem PySem.Spec PyProof.Rows L2
end PD
set_option Elab.async false
set_option linter.all false
set_option maxRecDepth 100000
set_option maxHeartbeats 1000000
namespace PD
open PySem PySem.Spec PyProof.Rows L2
end PD
set_option Elab.async false
set_option linter.all false
set_option maxRecDepth 100000
set_option maxHeartbeats 1000000
namespace PD
open PySem PySem.Spec PyProof.Rows L2
def tu (l : List Int) : PyData := .tuple (l.map .int)
def li (l : List Int) : PyData := .list (l.map .int)
def lt (ls : List (List Int)) : PyData := .list (ls.map tu)
def tt (ls : List (List Int)) : PyData := .tuple (ls.map tu)
@[simp] theorem tu_eq (l : List Int) : PyData.tuple (l.map PyData.int) = tu l := rfl
@[simp] theorem li_eq (l : List Int) : PyData.list (l.map PyData.int) = li l := rfl
@[simp] theorem lt_eq (ls : List (List Int)) : PyData.list (ls.map tu) = lt ls := rfl
@[simp] theorem tt_eq (ls : List (List Int)) : PyData.tuple (ls.map tu) = tt ls := rfl
@[simp] theorem tu_eq' {α : Type} (l : List α) (f : α → Int) : PyData.tuple (l.map fun x => PyData.int (f x)) = tu (l.map f) := by unfold tu; rw [List.map_map]; rfl
@[simp] theorem li_eq' {α : Type} (l : List α) (f : α → Int) : PyData.list (l.map fun x => PyData.int (f x)) = li (l.map f) := by unfold li; rw [List.map_map]; rfl
@[simp] theorem lt_eq' {α : Type} (l : List α) (f : α → List Int) : PyData.list (l.map fun x => tu (f x)) = lt (l.map f) := by unfold lt; rw [List.map_map]; rfl
@[simp] theorem tt_eq' {α : Type} (l : List α) (f : α → List Int) : PyData.tuple (l.map fun x => tu (f x)) = tt (l.map f) := by unfold tt; rw [List.map_map]; rfl
@[simp] theorem items_tu (l : List Int) : items (tu l) = .ok (l.map .int) := rfl
@[simp] theorem items_li (l : List Int) : items (li l) = .ok (l.map .int) := rfl
@[simp] theorem items_lt (l : List (List Int)) : items (lt l) = .ok (l.map tu) := rfl
@[simp] theorem items_tt (l : List (List Int)) : items (tt l) = .ok (l.map tu) := rfl
@[simp] theorem items_list (l : List PyData) : items (.list l) = .ok l := rfl
@[simp] theorem items_tuple (l : List PyData) : items (.tuple l) = .ok l := rfl
def dep (n : Nat) (d : PyData) : Prop := d.canLay0 = true ∧ d.depth ≤ n
theorem dep_int (i : Int) : dep 0 (.int i) := ⟨rfl, Nat.le_refl _⟩
theorem dep_bool (i : Bool) : dep 0 (.bool i) := ⟨rfl, Nat.le_refl _⟩
theorem dep_all {n : Nat} : ∀ {xs : List PyData}, (∀ x ∈ xs, dep n x) → PyData.canLayAll0 xs = true ∧ PyData.depthAll xs ≤ n
  | [], _ => ⟨rfl, Nat.zero_le _⟩
  | x :: xs, h => by
    obtain ⟨h1, h2⟩ := h x List.mem_cons_self
    obtain ⟨h3, h4⟩ := dep_all (xs := xs) fun y hy => h y (List.mem_cons_of_mem _ hy)
    refine ⟨?_, Nat.max_le.mpr ⟨h2, h4⟩⟩
    show (x.canLay0 && PyData.canLayAll0 xs) = true
    rw [h1, h3]; rfl
theorem dep_tuple {n : Nat} {xs : List PyData} (h : ∀ x ∈ xs, dep n x) : dep (n + 1) (.tuple xs) := ⟨(dep_all h).1, Nat.succ_le_succ (dep_all h).2⟩
theorem dep_list {n : Nat} {xs : List PyData} (h : ∀ x ∈ xs, dep n x) : dep (n + 1) (.list xs) := ⟨(dep_all h).1, Nat.succ_le_succ (dep_all h).2⟩
theorem dep_tu (l : List Int) : dep 1 (tu l) := dep_tuple fun x hx => by obtain ⟨i, _, rfl⟩ := List.mem_map.mp hx; exact dep_int i
theorem dep_li (l : List Int) : dep 1 (li l) := dep_list fun x hx => by obtain ⟨i, _, rfl⟩ := List.mem_map.mp hx; exact dep_int i
theorem dep_lt (l : List (List Int)) : dep 2 (lt l) := dep_list fun x hx => by obtain ⟨i, _, rfl⟩ := List.mem_map.mp hx; exact dep_tu i
theorem dep_tt (l : List (List Int)) : dep 2 (tt l) := dep_tuple fun x hx => by obtain ⟨i, _, rfl⟩ := List.mem_map.mp hx; exact dep_tu i
theorem shp_of {n : Nat} {d : PyData} (h : dep n d) (hn : n ≤ 64 := by decide) : shp d = true := by
  show (d.canLay0 && decide (d.depth ≤ 64)) = true
  rw [h.1, decide_eq_true (Nat.le_trans h.2 hn)]; rfl
@[simp] theorem shp_int (i : Int) : shp (.int i) = true := shp_of (dep_int i)
@[simp] theorem shp_bool (i : Bool) : shp (.bool i) = true := shp_of (dep_bool i)
@[simp] theorem shp_tu (l : List Int) : shp (tu l) = true := shp_of (dep_tu l)
@[simp] theorem shp_li (l : List Int) : shp (li l) = true := shp_of (dep_li l)
@[simp] theorem shp_lt (l : List (List Int)) : shp (lt l) = true := shp_of (dep_lt l)
@[simp] theorem shp_tt (l : List (List Int)) : shp (tt l) = true := shp_of (dep_tt l)
@[simp] theorem eqv_int (i j : Int) : PyData.eqv (.int i) (.int j) = (i == j) := by rw [PyData.eqv]
@[simp] theorem eqv_bool (i j : Bool) : PyData.eqv (.bool i) (.bool j) = (i == j) := by rw [PyData.eqv]
theorem eqvAll_map {α : Type} [DecidableEq α] {f : α → PyData} (h : ∀ a b, PyData.eqv (f a) (f b) = decide (a = b)) : ∀ xs ys : List α, PyData.eqvAll (xs.map f) (ys.map f) = decide (xs = ys)
  | [], [] => by rw [List.map_nil, PyData.eqvAll]; rfl
  | [], y :: ys => by rw [List.map_nil, List.map_cons, PyData.eqvAll]; rfl
  | x :: xs, [] => by rw [List.map_nil, List.map_cons, PyData.eqvAll]; rfl
  | x :: xs, y :: ys => by
    rw [List.map_cons, List.map_cons, PyData.eqvAll, h, eqvAll_map h xs ys]
    by_cases h1 : x = y <;> by_cases h2 : xs = ys <;> simp [h1, h2]
@[simp] theorem eqv_tu (a b : List Int) : PyData.eqv (tu a) (tu b) = decide (a = b) := by
  unfold tu; rw [PyData.eqv]
  exact eqvAll_map (fun i j => by rw [eqv_int]; rfl) a b
@[simp] theorem eqv_li (a b : List Int) : PyData.eqv (li a) (li b) = decide (a = b) := by
  unfold li; rw [PyData.eqv]
  exact eqvAll_map (fun i j => by rw [eqv_int]; rfl) a b
@[simp] theorem eqv_tt (a b : List (List Int)) : PyData.eqv (tt a) (tt b) = decide (a = b) := by
  unfold tt; rw [PyData.eqv]
  exact eqvAll_map eqv_tu a b
@[simp] theorem eqv_lt (a b : List (List Int)) : PyData.eqv (lt a) (lt b) = decide (a = b) := by
  unfold lt; rw [PyData.eqv]
  exact eqvAll_map eqv_tu a b
@[simp] theorem inD_ints (x : Int) (l : List Int) : inD (.int x) (l.map .int) = decide (x ∈ l) := by
  unfold inD
  induction l with
  | nil => rfl
  | cons y r ih =>
    rw [List.map_cons, List.any_cons, ih, eqv_int]
    by_cases h : y = x
    · subst h; simp
    · have h' : ¬ x = y := fun e => h e.symm
      simp [h, h']
@[simp] theorem inD_tus (x : List Int) (l : List (List Int)) : inD (tu x) (l.map tu) = decide (x ∈ l) := by
  unfold inD
  induction l with
  | nil => rfl
  | cons y r ih =>
    rw [List.map_cons, List.any_cons, ih, eqv_tu]
    by_cases h : y = x
    · subst h; simp
    · have h' : ¬ x = y := fun e => h e.symm
      simp [h, h']
@[simp] theorem oEq_int (i j : Int) : oEq (.int i) (.int j) = .ok (.bool (i == j)) := by simp [oEq]
@[simp] theorem oNe_int (i j : Int) : oNe (.int i) (.int j) = .ok (.bool (!(i == j))) := by simp [oNe]
@[simp] theorem oEq_bool (i j : Bool) : oEq (.bool i) (.bool j) = .ok (.bool (i == j)) := by simp [oEq]
@[simp] theorem oNe_bool (i j : Bool) : oNe (.bool i) (.bool j) = .ok (.bool (!(i == j))) := by simp [oNe]
@[simp] theorem oEq_tu (a b : List Int) : oEq (tu a) (tu b) = .ok (.bool (decide (a = b))) := by simp [oEq]
@[simp] theorem oNe_tu (a b : List Int) : oNe (tu a) (tu b) = .ok (.bool (!decide (a = b))) := by simp [oNe]
@[simp] theorem oEq_tt (a b : List (List Int)) : oEq (tt a) (tt b) = .ok (.bool (decide (a = b))) := by simp [oEq]
@[simp] theorem oNe_tt (a b : List (List Int)) : oNe (tt a) (tt b) = .ok (.bool (!decide (a = b))) := by simp [oNe]
@[simp] theorem oIn_tu (i : Int) (l : List Int) : oIn (.int i) (tu l) = .ok (.bool (decide (i ∈ l))) := by simp [oIn]
@[simp] theorem oNotIn_tu (i : Int) (l : List Int) : oNotIn (.int i) (tu l) = .ok (.bool (!decide (i ∈ l))) := by simp [oNotIn]
@[simp] theorem oIn_li (i : Int) (l : List Int) : oIn (.int i) (li l) = .ok (.bool (decide (i ∈ l))) := by simp [oIn]
@[simp] theorem oNotIn_li (i : Int) (l : List Int) : oNotIn (.int i) (li l) = .ok (.bool (!decide (i ∈ l))) := by simp [oNotIn]
@[simp] theorem oIn_tt (i : List Int) (l : List (List Int)) : oIn (tu i) (tt l) = .ok (.bool (decide (i ∈ l))) := by simp [oIn]
@[simp] theorem oIn_lt (i : List Int) (l : List (List Int)) : oIn (tu i) (lt l) = .ok (.bool (decide (i ∈ l))) := by simp [oIn]
@[simp] theorem oNotIn_lt (i : List Int) (l : List (List Int)) : oNotIn (tu i) (lt l) = .ok (.bool (!decide (i ∈ l))) := by simp [oNotIn]
@[simp] theorem oAdd_int (i j : Int) : oAdd (.int i) (.int j) = .ok (.int (i + j)) := rfl
@[simp] theorem oSub_int (i j : Int) : oSub (.int i) (.int j) = .ok (.int (i - j)) := rfl
@[simp] theorem oLt_int (i j : Int) : oLt (.int i) (.int j) = .ok (.bool (decide (i < j))) := rfl
@[simp] theorem oLe_int (i j : Int) : oLe (.int i) (.int j) = .ok (.bool (decide (i ≤ j))) := rfl
@[simp] theorem oGt_int (i j : Int) : oGt (.int i) (.int j) = .ok (.bool (decide (j < i))) := rfl
@[simp] theorem oGe_int (i j : Int) : oGe (.int i) (.int j) = .ok (.bool (decide (j ≤ i))) := rfl
theorem oMul_int {i j : Int} (h : CMul i j) : oMul (.int i) (.int j) = .ok (.int (i * j)) := if_pos h
theorem oMod_int {i j : Int} (h : j ≠ 0) : oMod (.int i) (.int j) = .ok (.int (i.fmod j)) := if_pos h
theorem oDiv_int {i j : Int} (h : CDivN i j) : oDiv (.int i) (.int j) = .ok (.int (i.fdiv j)) := if_pos h
theorem oAdd_tu {a b : List Int} (h : a.length + b.length ≤ 100000) : oAdd (tu a) (tu b) = .ok (tu (a ++ b)) := by
  have e : oAdd (.tuple (a.map PyData.int)) (.tuple (b.map PyData.int)) = .ok (.tuple (a.map PyData.int ++ b.map PyData.int)) := if_pos (by rw [List.length_map, List.length_map, sizeLine_eq]; omega)
  rw [← List.map_append] at e
  exact e
theorem oAdd_lt {a b : List (List Int)} (h : a.length + b.length ≤ 100000) : oAdd (lt a) (lt b) = .ok (lt (a ++ b)) := by
  have e : oAdd (.list (a.map tu)) (.list (b.map tu)) = .ok (.list (a.map tu ++ b.map tu)) := if_pos (by rw [List.length_map, List.length_map, sizeLine_eq]; omega)
  rw [← List.map_append] at e
  exact e
theorem atI_get {α β : Type} (f : α → β) {xs : List α} {i : Int} (h0 : 0 ≤ i) {x : α} (h : xs[i.toNat]? = some x) : atI (xs.map f) i = some (f x) := by
  have hl := (List.getElem?_eq_some_iff.mp h).1
  unfold atI ixN
  rw [if_pos h0, if_pos (by rw [List.length_map]; omega)]
  show (xs.map f)[i.toNat]? = _
  rw [List.getElem?_map, h]; rfl
theorem oIx_li {l : List Int} {i x : Int} (h0 : 0 ≤ i) (h : l[i.toNat]? = some x) : oIx (li l) (.int i) = .ok (.int x) := by
  show (match atI (l.map PyData.int) i with | some d => R.ok d | none => .bad) = _
  rw [atI_get _ h0 h]
theorem oIx_tu {l : List Int} {i x : Int} (h0 : 0 ≤ i) (h : l[i.toNat]? = some x) : oIx (tu l) (.int i) = .ok (.int x) := by
  show (match atI (l.map PyData.int) i with | some d => R.ok d | none => .bad) = _
  rw [atI_get _ h0 h]
theorem oIx_lt {l : List (List Int)} {i : Int} {x : List Int} (h0 : 0 ≤ i) (h : l[i.toNat]? = some x) : oIx (lt l) (.int i) = .ok (tu x) := by
  show (match atI (l.map tu) i with | some d => R.ok d | none => .bad) = _
  rw [atI_get _ h0 h]
theorem oIx_tt {l : List (List Int)} {i : Int} {x : List Int} (h0 : 0 ≤ i) (h : l[i.toNat]? = some x) : oIx (tt l) (.int i) = .ok (tu x) := by
  show (match atI (l.map tu) i with | some d => R.ok d | none => .bad) = _
  rw [atI_get _ h0 h]
@[simp] theorem oIx_pair0 (a b : PyData) : oIx (.tuple [a, b]) (.int 0) = .ok a := rfl
@[simp] theorem oIx_pair1 (a b : PyData) : oIx (.tuple [a, b]) (.int 1) = .ok b := rfl
@[simp] theorem bLen_tu (l : List Int) : bLen [tu l] = .ok (.int l.length) := by simp [bLen]
@[simp] theorem bLen_li (l : List Int) : bLen [li l] = .ok (.int l.length) := by simp [bLen]
@[simp] theorem bLen_lt (l : List (List Int)) : bLen [lt l] = .ok (.int l.length) := by simp [bLen]
@[simp] theorem bLen_tt (l : List (List Int)) : bLen [tt l] = .ok (.int l.length) := by simp [bLen]
@[simp] theorem bInt_int (i : Int) : bInt [.int i] = .ok (.int i) := rfl
@[simp] theorem bTuple_li (l : List Int) : bTuple [li l] = .ok (tu l) := rfl
@[simp] theorem bTuple_tu (l : List Int) : bTuple [tu l] = .ok (tu l) := rfl
@[simp] theorem bTuple_lt (l : List (List Int)) : bTuple [lt l] = .ok (tt l) := rfl
@[simp] theorem bTuple_tt (l : List (List Int)) : bTuple [tt l] = .ok (tt l) := rfl
@[simp] theorem bList_li (l : List Int) : bList [li l] = .ok (li l) := rfl
@[simp] theorem bList_tu (l : List Int) : bList [tu l] = .ok (li l) := rfl
@[simp] theorem bList_lt (l : List (List Int)) : bList [lt l] = .ok (lt l) := rfl
@[simp] theorem bList_tt (l : List (List Int)) : bList [tt l] = .ok (lt l) := rfl
@[simp] theorem asInts_map : ∀ l : List Int, asInts (l.map .int) = some l
  | [] => rfl
  | x :: r => by rw [List.map_cons, asInts, asInts_map r]; rfl
@[simp] theorem asBools_map : ∀ l : List Bool, asBools (l.map .bool) = some l
  | [] => rfl
  | x :: r => by rw [List.map_cons, asBools, asBools_map r]; rfl
theorem asBools_map' {α : Type} (f : α → Bool) (l : List α) : asBools (l.map fun x => PyData.bool (f x)) = some (l.map f) := by
  have := asBools_map (l.map f)
  rw [List.map_map] at this
  exact this
@[simp] theorem bAny_map {α : Type} (f : α → Bool) (l : List α) : bAny [.list (l.map fun x => PyData.bool (f x))] = .ok (.bool (l.any f)) := by
  show ofO (asBools (l.map fun x => PyData.bool (f x))) (fun ns => R.ok (PyData.bool (ns.any id))) = _
  rw [asBools_map']
  show R.ok (PyData.bool ((l.map f).any id)) = _
  rw [List.any_map]; rfl
@[simp] theorem bAll_map {α : Type} (f : α → Bool) (l : List α) : bAll [.list (l.map fun x => PyData.bool (f x))] = .ok (.bool (l.all f)) := by
  show ofO (asBools (l.map fun x => PyData.bool (f x))) (fun ns => R.ok (PyData.bool (ns.all id))) = _
  rw [asBools_map']
  show R.ok (PyData.bool ((l.map f).all id)) = _
  rw [List.all_map]; rfl
theorem bMax_li {l : List Int} (h : l ≠ []) : bMax [li l] = .ok (.int (maxI l)) := by
  show ofO (asInts (l.map PyData.int)) (fun ns => if 0 < ns.length then R.ok (PyData.int (maxI ns)) else .bad) = _
  rw [asInts_map]
  exact if_pos (List.length_pos_iff.mpr h)
@[simp] theorem bSum_li (l : List Int) : bSum [li l] = .ok (.int l.sum) := by
  show ofO (asInts (l.map PyData.int)) (fun ns => R.ok (PyData.int ns.sum)) = _
  rw [asInts_map]; rfl
theorem isi_int (i : Int) : oIsi "int" (.int i) = .ok (.bool true) := by
  have : isiD "int" (.int i) = some true := by show kitB "int" "int" = _; decide +kernel
  unfold oIsi; rw [this]
theorem isi_bool (i : Int) : oIsi "bool" (.int i) = .ok (.bool false) := by
  have : isiD "bool" (.int i) = some false := by show kitB "int" "bool" = _; decide +kernel
  unfold oIsi; rw [this]
theorem isi_tuple (l : List PyData) : oIsi "tuple" (.tuple l) = .ok (.bool true) := by
  have : isiD "tuple" (.tuple l) = some true := by show kitB "tuple" "tuple" = _; decide +kernel
  unfold oIsi; rw [this]
theorem isi_tu (l : List Int) : oIsi "tuple" (tu l) = .ok (.bool true) := isi_tuple _
theorem isi_tt (l : List (List Int)) : oIsi "tuple" (tt l) = .ok (.bool true) := isi_tuple _
end PD
set_option Elab.async false
set_option linter.all false
set_option maxRecDepth 100000
set_option maxHeartbeats 1000000
namespace PD
open PySem PySem.Spec PyProof.Rows L2
def varR : Option (Option Sl) → R PyData
  | some (some (.d x)) => .ok x
  | _ => .bad
@[simp] theorem varR_d (x : PyData) : varR (some (some (.d x))) = .ok x := rfl
@[simp] theorem ev_var (i : Nat) (ρ : Rho) : dVar i ρ = varR ρ[i]? := rfl
@[simp] theorem ev_c (x : PyData) (ρ : Rho) : dC x ρ = .ok x := rfl
@[simp] theorem ev_one (u : PyData → R PyData) (f : Dn) (ρ : Rho) : dOne u f ρ = (f ρ >>= u) := rfl
@[simp] theorem ev_two (u : PyData → PyData → R PyData) (f g : Dn) (ρ : Rho) : dTwo u f g ρ = (f ρ >>= fun a => g ρ >>= fun b => u a b) := rfl
@[simp] theorem ev_nil (ρ : Rho) : dNil ρ = .ok [] := rfl
@[simp] theorem ev_cons (f : Dn) (g : DnL) (ρ : Rho) : dCons f g ρ = (f ρ >>= fun a => g ρ >>= fun b => .ok (a :: b)) := rfl
@[simp] theorem ev_arg (m : List PyData → R PyData) (g : DnL) (ρ : Rho) : dArg m g ρ = (g ρ >>= m) := rfl
def tupR (xs : List PyData) : R PyData := if xs.length ≤ sizeLine then .ok (.tuple xs) else .bad
def lstR (xs : List PyData) : R PyData := if xs.length ≤ sizeLine then .ok (.list xs) else .bad
theorem tupR_ok {xs : List PyData} (h : xs.length ≤ 100000) : tupR xs = .ok (.tuple xs) := if_pos (by rw [sizeLine_eq]; omega)
theorem lstR_ok {xs : List PyData} (h : xs.length ≤ 100000) : lstR xs = .ok (.list xs) := if_pos (by rw [sizeLine_eq]; omega)
@[simp] theorem tupR_0 : tupR [] = .ok (.tuple []) := tupR_ok (by decide)
@[simp] theorem tupR_1 (a : PyData) : tupR [a] = .ok (.tuple [a]) := tupR_ok (by show 1 ≤ 100000; decide)
@[simp] theorem tupR_2 (a b : PyData) : tupR [a, b] = .ok (.tuple [a, b]) := tupR_ok (by show 2 ≤ 100000; decide)
@[simp] theorem tupR_3 (a b c : PyData) : tupR [a, b, c] = .ok (.tuple [a, b, c]) := tupR_ok (by show 3 ≤ 100000; decide)
@[simp] theorem tupR_4 (a b c d : PyData) : tupR [a, b, c, d] = .ok (.tuple [a, b, c, d]) := tupR_ok (by show 4 ≤ 100000; decide)
@[simp] theorem tupR_5 (a b c d e : PyData) : tupR [a, b, c, d, e] = .ok (.tuple [a, b, c, d, e]) := tupR_ok (by show 5 ≤ 100000; decide)
@[simp] theorem tupR_6 (a b c d e f : PyData) : tupR [a, b, c, d, e, f] = .ok (.tuple [a, b, c, d, e, f]) := tupR_ok (by show 6 ≤ 100000; decide)
@[simp] theorem tupR_7 (a b c d e f g : PyData) : tupR [a, b, c, d, e, f, g] = .ok (.tuple [a, b, c, d, e, f, g]) := tupR_ok (by show 7 ≤ 100000; decide)
@[simp] theorem tupR_8 (a b c d e f g h : PyData) : tupR [a, b, c, d, e, f, g, h] = .ok (.tuple [a, b, c, d, e, f, g, h]) := tupR_ok (by show 8 ≤ 100000; decide)
@[simp] theorem lstR_0 : lstR [] = .ok (.list []) := lstR_ok (by decide)
@[simp] theorem lstR_1 (a : PyData) : lstR [a] = .ok (.list [a]) := lstR_ok (by show 1 ≤ 100000; decide)
@[simp] theorem lstR_2 (a b : PyData) : lstR [a, b] = .ok (.list [a, b]) := lstR_ok (by show 2 ≤ 100000; decide)
@[simp] theorem lstR_3 (a b c : PyData) : lstR [a, b, c] = .ok (.list [a, b, c]) := lstR_ok (by show 3 ≤ 100000; decide)
@[simp] theorem ev_tup (g : DnL) (ρ : Rho) : dTup g ρ = (g ρ >>= tupR) := rfl
@[simp] theorem ev_lst (g : DnL) (ρ : Rho) : dLst g ρ = (g ρ >>= lstR) := rfl
@[simp] theorem tu_0 : PyData.tuple [] = tu [] := rfl
@[simp] theorem tu_1 (a : Int) : PyData.tuple [.int a] = tu [a] := rfl
@[simp] theorem tu_6 (a b c d e f : Int) : PyData.tuple [.int a, .int b, .int c, .int d, .int e, .int f] = tu [a, b, c, d, e, f] := rfl
@[simp] theorem tu_8 (a b c d e f g h : Int) : PyData.tuple [.int a, .int b, .int c, .int d, .int e, .int f, .int g, .int h] = tu [a, b, c, d, e, f, g, h] := rfl
@[simp] theorem li_3 (a b c : Int) : PyData.list [.int a, .int b, .int c] = li [a, b, c] := rfl
@[simp] theorem lt_1 (a : List Int) : PyData.list [tu a] = lt [a] := rfl
@[simp] theorem asB_bool (b : Bool) : asB (.bool b) = .ok b := rfl
@[simp] theorem asI_int (b : Int) : asI (.int b) = .ok b := rfl
@[simp] theorem ev_asB (f : Dn) (ρ : Rho) : dAsB f ρ = (f ρ >>= asB) := rfl
@[simp] theorem ev_and (f g : DnB) (ρ : Rho) : dAnd f g ρ = (f ρ >>= fun b => if b = true then g ρ else .ok false) := rfl
@[simp] theorem ev_or (f g : DnB) (ρ : Rho) : dOr f g ρ = (f ρ >>= fun b => if b = true then .ok true else g ρ) := rfl
@[simp] theorem ev_not (f : DnB) (ρ : Rho) : dNot f ρ = (f ρ >>= fun b => .ok (!b)) := rfl
@[simp] theorem ev_andV (f g : Dn) (ρ : Rho) : dAndV f g ρ = (f ρ >>= fun a => asB a >>= fun b => if b = true then g ρ else .ok (.bool false)) := rfl
@[simp] theorem ev_orV (f g : Dn) (ρ : Rho) : dOrV f g ρ = (f ρ >>= fun a => asB a >>= fun b => if b = true then .ok (.bool true) else g ρ) := rfl
@[simp] theorem ev_notV (f : Dn) (ρ : Rho) : dNotV f ρ = (f ρ >>= fun a => asB a >>= fun b => .ok (.bool (!b))) := rfl
@[simp] theorem ev_if (c : DnB) (f g : Dn) (ρ : Rho) : dIf c f g ρ = (c ρ >>= fun b => if b = true then f ρ else g ρ) := rfl
@[simp] theorem ev_cut (f : Dn) (l h : DnO) (ρ : Rho) : dCut f l h ρ = (f ρ >>= fun a => l ρ >>= fun l => h ρ >>= fun h => oCut a l h) := rfl
@[simp] theorem ev_noP (ρ : Rho) : dNoP ρ = .ok none := rfl
@[simp] theorem ev_part (f : Dn) (ρ : Rho) : dPart f ρ = (f ρ >>= fun a => asI a >>= fun i => .ok (some i)) := rfl
@[simp] theorem ev_yes (ρ : Rho) : dYes ρ = .ok true := rfl
@[simp] theorem ev_items (f : Dn) (ρ : Rho) : dItems f ρ = (f ρ >>= items) := rfl
@[simp] theorem ev_rng1 (g : DnL) (ρ : Rho) : dRng1 g ρ = (g ρ >>= rngA1) := rfl
@[simp] theorem ev_rng2 (g : DnL) (ρ : Rho) : dRng2 g ρ = (g ρ >>= rngA2) := rfl
@[simp] theorem ev_thawB (f : DnB) (ρ : Rho) : dThawB f ρ = nx (f (thaw ρ)) .ok := rfl
@[simp] theorem ev_thaw (f : Dn) (ρ : Rho) : dThaw f ρ = nx (f (thaw ρ)) fun d => if flat d = true then .ok d else .bad := rfl
def rangeI (lo hi : Int) : List Int := (List.range (hi - lo).toNat).map fun i => lo + (i : Nat)
theorem rngD_eq (lo : Int) (n : Nat) : rngD lo n = ((List.range n).map fun i => lo + (i : Nat)).map PyData.int := by unfold rngD; rw [List.map_map]; rfl
theorem rngA1_ok {n : Int} (h : n ≤ 100000) (h0 : -1000 ≤ n) : rngA1 [.int n] = .ok ((rangeI 0 n).map PyData.int) := by
  have e : rngA1 [.int n] = .ok (rngD 0 n.toNat) := if_pos ⟨by omega, by rw [sizeLine_eq]; omega⟩
  rw [e, rngD_eq]
  unfold rangeI
  rw [Int.sub_zero]
theorem mem_rangeI {lo hi x : Int} : x ∈ rangeI lo hi ↔ lo ≤ x ∧ x < hi := by
  unfold rangeI
  rw [List.mem_map]
  constructor
  · rintro ⟨i, hi', rfl⟩
    have := List.mem_range.mp hi'
    omega
  · intro ⟨h1, h2⟩
    exact ⟨(x - lo).toNat, List.mem_range.mpr (by omega), by omega⟩
theorem rangeI_len (lo hi : Int) : (rangeI lo hi).length = (hi - lo).toNat := by unfold rangeI; rw [List.length_map, List.length_range]
theorem rangeI_asc (lo hi : Int) : (rangeI lo hi).Pairwise (· < ·) := by
  unfold rangeI
  rw [List.pairwise_map]
  exact List.Pairwise.imp (fun h => by omega) List.pairwise_lt_range
def lcR {α β : Type} (p : α → R Bool) (f : α → R β) : List α → R (List β)
  | [] => .ok []
  | x :: xs => nx (p x) fun b => if b = true then nx (f x) fun y => nx (lcR p f xs) fun ys => .ok (y :: ys) else lcR p f xs
theorem lcGo_nm (i : Nat) (ft : DnB) (fe : Dn) (ρ : Rho) : ∀ ds : List PyData, lcGo (.nm i) ft fe ρ ds = lcR (fun d => ft (ρ.set i (some (.d d)))) (fun d => fe (ρ.set i (some (.d d)))) ds
  | [] => rfl
  | d :: ds => by
    show nx _ _ = nx _ _
    simp only [lcGo_nm i ft fe ρ ds]
@[simp] theorem lcR_map {α β γ : Type} (p : α → R Bool) (f : α → R β) (g : γ → α) : ∀ xs : List γ, lcR p f (xs.map g) = lcR (fun x => p (g x)) (fun x => f (g x)) xs
  | [] => rfl
  | x :: xs => by
    show nx _ _ = nx _ _
    simp only [lcR_map p f g xs]
@[simp] theorem lcR_ok {α β : Type} (p : α → Bool) (f : α → β) : ∀ xs : List α, lcR (fun x => .ok (p x)) (fun x => .ok (f x)) xs = .ok ((xs.filter p).map f)
  | [] => rfl
  | x :: xs => by
    show (if p x = true then nx (lcR _ _ xs) _ else lcR _ _ xs) = _
    rw [lcR_ok p f xs]
    cases h : p x <;> simp [h]
@[simp high] theorem lcR_all {α β : Type} (f : α → β) (xs : List α) : lcR (fun _ => .ok true) (fun x => .ok (f x)) xs = .ok (xs.map f) := by
  rw [lcR_ok (fun _ => true) f xs, List.filter_eq_self.mpr (fun _ _ => rfl)]
theorem lcR_of {α β : Type} {p : α → R Bool} {f : α → R β} {q : α → Bool} {g : α → β} : ∀ {xs : List α}, (∀ x ∈ xs, p x = .ok (q x) ∧ (q x = true → f x = .ok (g x))) → lcR p f xs = .ok ((xs.filter q).map g)
  | [], _ => rfl
  | x :: xs, h => by
    obtain ⟨h1, h2⟩ := h x List.mem_cons_self
    show nx (p x) _ = _
    rw [h1, lcR_of (xs := xs) fun y hy => h y (List.mem_cons_of_mem _ hy)]
    cases e : q x with
    | false => simp [e]
    | true => rw [h2 e]; simp [e]
@[simp] theorem ev_lc (fi : DnL) (i : Nat) (ft : DnB) (fe : Dn) (vs : List Nat) (ρ : Rho) : dLc fi (.nm i) ft fe vs ρ = (fi ρ >>= fun ds => nx (lcR (fun d => ft ((wipeR ρ vs).set i (some (.d d)))) (fun d => fe ((wipeR ρ vs).set i (some (.d d)))) ds) fun ys => .ok (.list ys)) := by
  show (fi ρ >>= fun ds => nx (lcGo (.nm i) ft fe (wipeR ρ vs) ds) fun ys => R.ok (PyData.list ys)) = _
  simp only [lcGo_nm]
@[simp] theorem wipe_0 (ρ : Rho) : wipeR ρ [] = ρ := rfl
@[simp] theorem wipe_1 (ρ : Rho) (v : Nat) (vs : List Nat) : wipeR ρ (v :: vs) = (wipeR ρ vs).set v none := rfl
def anyR {α : Type} (stop : Bool) (f : α → R PyData) : List α → R Bool
  | [] => .ok (!stop)
  | x :: xs => nx (f x) fun y => match y with
    | .bool c => if c = stop then .ok stop else anyR stop f xs
    | _ => .bad
theorem anyGo_nm (stop : Bool) (i : Nat) (fe : Dn) (ρ : Rho) : ∀ ds : List PyData, anyGo stop (.nm i) dYes fe ρ ds = anyR stop (fun d => fe (ρ.set i (some (.d d)))) ds
  | [] => rfl
  | d :: ds => by
    show nx (fe (ρ.set i (some (.d d)))) _ = nx (fe (ρ.set i (some (.d d)))) _
    cases fe (ρ.set i (some (.d d))) with
    | exc e => rfl
    | bad => rfl
    | ok y =>
      show (match y with | .bool c => if c = stop then R.ok stop else anyGo stop (.nm i) dYes fe ρ ds | _ => .bad) = _
      rw [anyGo_nm stop i fe ρ ds]
      cases y <;> rfl
@[simp] theorem ev_anyG (stop : Bool) (fi : DnL) (i : Nat) (fe : Dn) (vs : List Nat) (ρ : Rho) : dAnyG stop fi (.nm i) dYes fe vs ρ = (fi ρ >>= fun ds => nx (anyR stop (fun d => fe ((wipeR ρ vs).set i (some (.d d)))) ds) fun b => .ok (.bool b)) := by
  show (fi ρ >>= fun ds => nx (anyGo stop (.nm i) dYes fe (wipeR ρ vs) ds) fun b => R.ok (PyData.bool b)) = _
  simp only [anyGo_nm]
@[simp] theorem ite_ok {α : Type} (c : Prop) [Decidable c] (a b : α) : (if c then R.ok a else R.ok b) = R.ok (if c then a else b) := by split <;> rfl
@[simp] theorem ite_int (c : Prop) [Decidable c] (a b : Int) : (if c then PyData.int a else PyData.int b) = PyData.int (if c then a else b) := by split <;> rfl
@[simp] theorem ite_bool (c : Prop) [Decidable c] (a b : Bool) : (if c then PyData.bool a else PyData.bool b) = PyData.bool (if c then a else b) := by split <;> rfl
@[simp] theorem ite_tu (c : Prop) [Decidable c] (a b : List Int) : (if c then tu a else tu b) = tu (if c then a else b) := by split <;> rfl
def seqO (o : Out) (h : Sn) : Out := match o with
  | .nx ρ' => h ρ'
  | o => o
@[simp] theorem seqO_nx (ρ : Rho) (h : Sn) : seqO (.nx ρ) h = h ρ := rfl
@[simp] theorem seqO_rt (d : PyData) (h : Sn) : seqO (.rt d) h = .rt d := rfl
@[simp] theorem seqO_ct (ρ : Rho) (h : Sn) : seqO (.ct ρ) h = .ct ρ := rfl
@[simp] theorem seqO_bk (ρ : Rho) (h : Sn) : seqO (.bk ρ) h = .bk ρ := rfl
@[simp] theorem ev_seq (g h : Sn) (ρ : Rho) : gSeq g h ρ = seqO (g ρ) h := rfl
@[simp] theorem ev_skip (ρ : Rho) : gSkip ρ = .nx ρ := rfl
@[simp] theorem oR_ok {α : Type} (a : α) (ρ : Rho) (k : α → Out) : oR (.ok a) ρ k = k a := rfl
@[simp] theorem oO_some (ρ : Rho) : oO (some ρ) = .nx ρ := rfl
@[simp] theorem set_nm (i : Nat) (d : PyData) (ρ : Rho) : Tg.set (.nm i) d ρ = some (ρ.set i (some (.d d))) := by rw [Tg.set]
@[simp] theorem set_tp2 (i j : Nat) (a b : PyData) (ρ : Rho) : Tg.set (.tp [.nm i, .nm j]) (.tuple [a, b]) ρ = some ((ρ.set i (some (.d a))).set j (some (.d b))) := by
  simp [Tg.set, Tg.sets]
@[simp] theorem ev_set (f : Dn) (t : Tg) (ρ : Rho) : gSet f t ρ = oR (f ρ) ρ fun d => oO (t.set d ρ) := rfl
@[simp] theorem ev_ret (f : Dn) (ρ : Rho) : gRet f ρ = oR (f ρ) ρ .rt := rfl
@[simp] theorem ev_expr (f : Dn) (ρ : Rho) : gExpr f ρ = oR (f ρ) ρ fun _ => .nx ρ := rfl
@[simp] theorem ev_ifs (c : DnB) (g h : Sn) (ρ : Rho) : gIf c g h ρ = oR (c ρ) ρ fun b => if b = true then g ρ else h ρ := rfl
@[simp] theorem ev_for (fi : DnL) (t : Tg) (g : Sn) (ρ : Rho) : gFor fi t g ρ = oR (fi ρ) ρ fun ds => forGo t g ds ρ := rfl
def frzO (o : Option Rho) (g : Sn) : Out := match o with
  | some ρ' => g ρ'
  | none => .bad
@[simp] theorem frzO_some (ρ : Rho) (g : Sn) : frzO (some ρ) g = g ρ := rfl
@[simp] theorem ev_frz (i : Nat) (g : Sn) (ρ : Rho) : gFrz i g ρ = frzO (frz i ρ) g := rfl
def frzS (o : Option (Option Sl)) (ρ : Rho) (i : Nat) : Option Rho := match o with
  | some (some (.own ds)) => some (ρ.set i (some (.d (.list ds))))
  | _ => none
@[simp] theorem frzS_own (ds : List PyData) (ρ : Rho) (i : Nat) : frzS (some (some (.own ds))) ρ i = some (ρ.set i (some (.d (.list ds)))) := rfl
@[simp] theorem ev_frzs (i : Nat) (ρ : Rho) : frz i ρ = frzS ρ[i]? ρ i := rfl
def ownR (d : PyData) (ρ : Rho) (i : Nat) : Out := match d with
  | .list ds => .nx (ρ.set i (some (.own ds)))
  | _ => .bad
@[simp] theorem ownR_list (ds : List PyData) (ρ : Rho) (i : Nat) : ownR (.list ds) ρ i = .nx (ρ.set i (some (.own ds))) := rfl
@[simp] theorem ownR_li (l : List Int) (ρ : Rho) (i : Nat) : ownR (li l) ρ i = .nx (ρ.set i (some (.own (l.map .int)))) := rfl
@[simp] theorem ownR_lt (l : List (List Int)) (ρ : Rho) (i : Nat) : ownR (lt l) ρ i = .nx (ρ.set i (some (.own (l.map tu)))) := rfl
@[simp] theorem ev_own (f : Dn) (i : Nat) (ρ : Rho) : gOwn f i ρ = oR (f ρ) ρ fun d => ownR d ρ i := rfl
def ownA (o : Option (Option Sl)) (k : List PyData → Out) : Out := match o with
  | some (some (.own ds)) => k ds
  | _ => .bad
@[simp] theorem ownA_own (ds : List PyData) (k : List PyData → Out) : ownA (some (some (.own ds))) k = k ds := rfl
@[simp] theorem ev_app (i : Nat) (f : Dn) (ρ : Rho) : gApp i f ρ = ownA ρ[i]? fun ds => oR (f ρ) ρ fun d => if ds.length < sizeLine then .nx (ρ.set i (some (.own (ds ++ [d])))) else .bad := rfl
def thaw1 : Option Sl → Option Sl
  | some (.own ds) => some (.d (.list ds))
  | some (.dct ks) => some (.d (.dict (ks.map fun k => (.tuple (k.map .int), .bool true))))
  | some (.dk _) => none
  | s => s
@[simp] theorem thaw1_dct (ks : List (List Int)) : thaw1 (some (.dct ks)) = some (.d (.dict (ks.map fun k => (.tuple (k.map .int), .bool true)))) := rfl
@[simp] theorem thaw1_own (ds : List PyData) : thaw1 (some (.own ds)) = some (.d (.list ds)) := rfl
@[simp] theorem thaw1_d (d : PyData) : thaw1 (some (.d d)) = some (.d d) := rfl
@[simp] theorem thaw1_none : thaw1 none = none := rfl
@[simp] theorem thaw_nil : thaw [] = [] := rfl
@[simp] theorem thaw_cons (s : Option Sl) (r : Rho) : thaw (s :: r) = thaw1 s :: thaw r := rfl
@[simp] theorem endR_rt (d : PyData) : endR (.rt d) = .ok d := rfl
theorem line_lt {n : Nat} (h : n < 100000) : n < sizeLine := by rw [sizeLine_eq]; omega
/-- a for loop: S holds of what is left to walk -/
theorem forGo_inv {α : Type} {enc : α → PyData} {i : Nat} {g : Sn} (S : List α → Rho → Prop) (hs : ∀ x xs ρ, S (x :: xs) ρ → ∃ ρ', g (ρ.set i (some (.d (enc x)))) = .nx ρ' ∧ S xs ρ') :
    ∀ (xs : List α) (ρ : Rho), S xs ρ → ∃ ρ', forGo (.nm i) g (xs.map enc) ρ = .nx ρ' ∧ S [] ρ'
  | [], ρ, h => ⟨ρ, rfl, h⟩
  | x :: xs, ρ, h => by
    obtain ⟨ρ1, e1, h1⟩ := hs x xs ρ h
    obtain ⟨ρ2, e2, h2⟩ := forGo_inv S hs xs ρ1 h1
    refine ⟨ρ2, ?_, h2⟩
    rw [List.map_cons]
    unfold forGo
    rw [set_nm]
    show (match g (ρ.set i (some (.d (enc x)))) with | .nx ρ => forGo (.nm i) g (xs.map enc) ρ | .ct ρ => forGo (.nm i) g (xs.map enc) ρ | .bk ρ => .nx ρ | o => o) = _
    rw [e1]
    exact e2
@[simp] theorem bAbs_int (i : Int) : bAbs [.int i] = .ok (.int (if i < 0 then -i else i)) := rfl
@[simp] theorem bMin2_int (i j : Int) : bMin2 [.int i, .int j] = .ok (.int (if j < i then j else i)) := rfl
@[simp] theorem oPow_10_18 : oPow (.int 10) (.int 18) = .ok (.int 1000000000000000000) := by
  have h : CPow 10 18 := ⟨by decide, by decide, by decide⟩
  show (if CPow 10 18 then R.ok (PyData.int (10 ^ (18 : Int).toNat)) else .bad) = _
  rw [if_pos h]; rfl
theorem oMul_r {i j : Int} (h1 : -18446744073709551616 < j) (h2 : j < 18446744073709551616) : oMul (.int i) (.int j) = .ok (.int (i * j)) := oMul_int (.inr ⟨by omega, by omega⟩)
theorem oMul_l {i j : Int} (h1 : -18446744073709551616 < i) (h2 : i < 18446744073709551616) : oMul (.int i) (.int j) = .ok (.int (i * j)) := oMul_int (.inl ⟨by omega, by omega⟩)
theorem oDiv_lit {i j : Int} (h1 : j ≠ 0) (h2 : j.natAbs < 1073741824) : oDiv (.int i) (.int j) = .ok (.int (i.fdiv j)) := oDiv_int ⟨h1, h2⟩
theorem fmod_lo (a : Int) {b : Int} (h : 0 < b) : 0 ≤ a.fmod b := Int.fmod_nonneg_of_pos a h
theorem fmod_hi (a : Int) {b : Int} (h : 0 < b) : a.fmod b < b := Int.fmod_lt_of_pos a h
def unInt : PyData → Int
  | .int i => i
  | _ => 0
def unTu : PyData → List Int
  | .tuple l => l.map unInt
  | _ => []
theorem unTu_tu (l : List Int) : unTu (tu l) = l := by
  show (l.map PyData.int).map unInt = l
  rw [List.map_map]
  exact List.map_id'' (fun _ => rfl) l
theorem alike_ints : ∀ a b : List Int, PySem.W.alikeAll (a.map PyData.int) (b.map PyData.int) = true
  | [], _ => by rw [List.map_nil, PySem.W.alikeAll]
  | _ :: _, [] => by rw [List.map_nil, List.map_cons, PySem.W.alikeAll]
  | x :: a, y :: b => by
    rw [List.map_cons, List.map_cons, PySem.W.alikeAll, alike_ints a b, PySem.W.alike]; rfl
theorem okSort_tus (ls : List (List Int)) : okSort (ls.map tu) = true := by
  unfold okSort
  have h1 : allAlike (ls.map tu) = true := by
    unfold allAlike
    rw [List.all_eq_true]
    intro d hd
    rw [List.all_eq_true]
    intro e he
    obtain ⟨a, _, rfl⟩ := List.mem_map.mp hd
    obtain ⟨b, _, rfl⟩ := List.mem_map.mp he
    show PySem.W.alike (.tuple _) (.tuple _) = true
    rw [PySem.W.alike]
    exact alike_ints a b
  have h2 : allTup (ls.map tu) = true := by
    unfold allTup
    rw [List.all_eq_true]
    intro d hd
    obtain ⟨a, _, rfl⟩ := List.mem_map.mp hd
    rfl
  have h3 : ((ls.map tu).all fun d => decide (d.depth ≤ 60)) = true := by
    rw [List.all_eq_true]
    intro d hd
    obtain ⟨a, _, rfl⟩ := List.mem_map.mp hd
    exact decide_eq_true (Nat.le_trans (dep_tu a).2 (by decide))
  rw [h1, h2, h3]; rfl
def sortT (ls : List (List Int)) : List (List Int) := (sortD (ls.map tu)).map unTu
theorem sortD_tus (ls : List (List Int)) : sortD (ls.map tu) = (sortT ls).map tu ∧ (sortT ls).Perm ls := by
  have p : (sortD (ls.map tu)).Perm (ls.map tu) := List.mergeSort_perm _ _
  have all : ∀ d ∈ sortD (ls.map tu), tu (unTu d) = d := fun d hd => by
    obtain ⟨a, _, rfl⟩ := List.mem_map.mp (p.subset hd)
    rw [unTu_tu]
  refine ⟨?_, ?_⟩
  · unfold sortT
    rw [List.map_map]
    have e : ∀ l : List PyData, (∀ d ∈ l, tu (unTu d) = d) → l.map (tu ∘ unTu) = l := fun l h => by
      induction l with
      | nil => rfl
      | cons d r ih => rw [List.map_cons, ih fun x hx => h x (List.mem_cons_of_mem _ hx)]; show tu (unTu d) :: r = _; rw [h d List.mem_cons_self]
    exact (e _ all).symm
  · have q := p.map unTu
    rw [List.map_map] at q
    have e : ls.map (unTu ∘ tu) = ls := List.map_id'' (fun l => unTu_tu l) ls
    rw [e] at q
    exact q
@[simp] theorem bSorted_lt (ls : List (List Int)) : bSorted [lt ls] = .ok (lt (sortT ls)) := by
  have e : bSorted [.list (ls.map tu)] = .ok (.list (sortD (ls.map tu))) := if_pos (okSort_tus ls)
  rw [(sortD_tus ls).1] at e
  exact e
theorem mem_sortT {ls : List (List Int)} {l : List Int} : l ∈ sortT ls ↔ l ∈ ls := (sortD_tus ls).2.mem_iff
theorem sortT_perm (ls : List (List Int)) : (sortT ls).Perm ls := (sortD_tus ls).2
end PD
set_option Elab.async false
set_option linter.all false
set_option maxRecDepth 100000
set_option maxHeartbeats 1000000
namespace PD
open PySem PySem.Spec PyProof.Rows L2
def popO (d : PyData) (ds : List PyData) (ρ : Rho) (i : Nat) : Out := match d with
  | .int k => match seqIndex? k ds.length with
    | some j => if -(2 ^ 63) ≤ k ∧ k < 2 ^ 63 ∧ j < ds.length then .nx (ρ.set i (some (.own (ds.eraseIdx j)))) else .bad
    | none => .bad
  | _ => .bad
@[simp] theorem ev_popAt (i : Nat) (f : Dn) (ρ : Rho) : gPopAt i f ρ = ownA ρ[i]? fun ds => oR (f ρ) ρ fun d => popO d ds ρ i := rfl
@[simp] theorem flat_int (i : Int) : flat (.int i) = true := rfl
@[simp] theorem flat_bool (i : Bool) : flat (.bool i) = true := rfl
@[simp] theorem nx_bad {α β : Type} (k : α → R β) : nx .bad k = .bad := rfl
@[simp] theorem bLstR1_ok {n : Int} (h : rgOk 0 n = true) : bLstR1 (.int n) = .ok (li (rangeI 0 n)) := by
  have e : bLstR1 (.int n) = .ok (.list (lstRg 0 n)) := if_pos h
  rw [e]
  unfold lstRg li rangeI
  rw [List.map_map]; rfl
end PD
set_option Elab.async false
set_option linter.all false
set_option maxRecDepth 100000
set_option maxHeartbeats 1000000
namespace PD
open PySem PySem.Spec PyProof.Rows L2
theorem okSort_ints (l : List Int) : okSort (l.map PyData.int) = true := by
  unfold okSort
  have h1 : allAlike (l.map PyData.int) = true := by
    unfold allAlike
    rw [List.all_eq_true]
    intro d hd
    rw [List.all_eq_true]
    intro e he
    obtain ⟨a, _, rfl⟩ := List.mem_map.mp hd
    obtain ⟨b, _, rfl⟩ := List.mem_map.mp he
    rw [PySem.W.alike]
  have h2 : allNot (l.map PyData.int) = true := by
    unfold allNot
    rw [List.all_eq_true]
    intro d hd
    obtain ⟨a, _, rfl⟩ := List.mem_map.mp hd
    rfl
  have h3 : ((l.map PyData.int).all fun d => decide (d.depth ≤ 60)) = true := by
    rw [List.all_eq_true]
    intro d hd
    obtain ⟨a, _, rfl⟩ := List.mem_map.mp hd
    exact decide_eq_true (Nat.zero_le _)
  rw [h1, h2, h3, Bool.or_true]; rfl
def sortI (l : List Int) : List Int := (sortD (l.map PyData.int)).map unInt
theorem sortD_ints (l : List Int) : sortD (l.map PyData.int) = (sortI l).map PyData.int ∧ (sortI l).Perm l := by
  have p : (sortD (l.map PyData.int)).Perm (l.map PyData.int) := List.mergeSort_perm _ _
  have all : ∀ d ∈ sortD (l.map PyData.int), PyData.int (unInt d) = d := fun d hd => by
    obtain ⟨a, _, rfl⟩ := List.mem_map.mp (p.subset hd)
    rfl
  refine ⟨?_, ?_⟩
  · unfold sortI
    rw [List.map_map]
    have e : ∀ l : List PyData, (∀ d ∈ l, PyData.int (unInt d) = d) → l.map (PyData.int ∘ unInt) = l := fun l h => by
      induction l with
      | nil => rfl
      | cons d r ih => rw [List.map_cons, ih fun x hx => h x (List.mem_cons_of_mem _ hx)]; show PyData.int (unInt d) :: r = _; rw [h d List.mem_cons_self]
    exact (e _ all).symm
  · have q := p.map unInt
    rw [List.map_map] at q
    have e : l.map (unInt ∘ PyData.int) = l := List.map_id'' (fun _ => rfl) l
    rw [e] at q
    exact q
@[simp] theorem bSorted_li (l : List Int) : bSorted [li l] = .ok (li (sortI l)) := by
  have e : bSorted [.list (l.map .int)] = .ok (.list (sortD (l.map .int))) := if_pos (okSort_ints l)
  rw [(sortD_ints l).1] at e
  exact e
@[simp] theorem bSorted_tu (l : List Int) : bSorted [tu l] = .ok (li (sortI l)) := by
  have e : bSorted [.tuple (l.map .int)] = .ok (.list (sortD (l.map .int))) := if_pos (okSort_ints l)
  rw [(sortD_ints l).1] at e
  exact e
theorem mem_sortI {l : List Int} {x : Int} : x ∈ sortI l ↔ x ∈ l := (sortD_ints l).2.mem_iff
@[simp] theorem asTu_tu (l : List Int) : asTu (tu l) = some l := asInts_ints l
theorem keysOf_keyD (ks : List (List Int)) : keysOf (ks.map keyD) = ks.map some := by
  unfold keysOf
  rw [List.map_map]
  exact List.map_congr_left fun k _ => asInts_ints k
theorem marked_keyD (ks : List (List Int)) : marked (ks.map keyD) = false := by cases ks <;> rfl
@[simp] theorem oInT_tu (k : List Int) (ks : List (List Int)) : oInT (tu k) (.dict (ks.map keyD)) = .ok (.bool (decide (k ∈ ks))) := by
  show (match asTu (tu k) with | some k => if marked (ks.map keyD) = true then R.bad else R.ok (PyData.bool (decide (some k ∈ keysOf (ks.map keyD)))) | none => .bad) = _
  rw [asTu_tu, keysOf_keyD]
  show (if marked (ks.map keyD) = true then R.bad else R.ok (PyData.bool (decide (some k ∈ ks.map some)))) = _
  rw [if_neg (by rw [marked_keyD]; simp)]
  show R.ok (PyData.bool (decide (some k ∈ ks.map some))) = _
  congr 2
  by_cases h : k ∈ ks <;> simp [h]
def insK (acc : List (List Int)) (k : List Int) : List (List Int) := if k ∈ acc then acc else acc ++ [k]
theorem mem_insK {acc : List (List Int)} {k x : List Int} : x ∈ insK acc k ↔ x ∈ acc ∨ x = k := by
  unfold insK
  split
  · constructor
    · exact .inl
    · rintro (h | rfl)
      · exact h
      · assumption
  · rw [List.mem_append, List.mem_singleton]
theorem mem_foldK {x : List Int} : ∀ {ks acc : List (List Int)}, x ∈ ks.foldl insK acc ↔ x ∈ acc ∨ x ∈ ks
  | [], acc => by simp
  | k :: ks, acc => by
    rw [List.foldl_cons, mem_foldK, mem_insK, List.mem_cons]
    constructor
    · rintro ((h | h) | h)
      · exact .inl h
      · exact .inr (.inl h)
      · exact .inr (.inr h)
    · rintro (h | h | h)
      · exact .inl (.inl h)
      · exact .inl (.inr h)
      · exact .inr h
theorem dcGo_all {α : Type} {enc : α → PyData} {kf : α → List Int} {i : Nat} {fk : Dn} {ρ : Rho} : ∀ {xs : List α} {acc : List (List Int)}, (∀ x ∈ xs, fk (ρ.set i (some (.d (enc x)))) = .ok (tu (kf x))) → dcGo (.nm i) dYes fk ρ (xs.map enc) acc = .ok ((xs.map kf).foldl insK acc)
  | [], _, _ => rfl
  | x :: xs, acc, h => by
    have e : dcGo (.nm i) dYes fk ρ ((x :: xs).map enc) acc = nx (fk (ρ.set i (some (.d (enc x))))) fun y => (match asTu y with
        | some k => dcGo (.nm i) dYes fk ρ (xs.map enc) (if k ∈ acc then acc else acc ++ [k])
        | none => .bad) := by
      rw [List.map_cons]
      conv => lhs; unfold dcGo
      rw [set_nm]
      first | done | rfl
    rw [e, h x List.mem_cons_self]
    show (match asTu (tu (kf x)) with | some k => dcGo (.nm i) dYes fk ρ (xs.map enc) (if k ∈ acc then acc else acc ++ [k]) | none => .bad) = _
    rw [asTu_tu]
    show dcGo (.nm i) dYes fk ρ (xs.map enc) (insK acc (kf x)) = _
    rw [dcGo_all fun y hy => h y (List.mem_cons_of_mem _ hy)]
    rfl
@[simp] theorem oIx_t0 (a b c : PyData) : oIx (.tuple [a, b, c]) (.int 0) = .ok a := rfl
@[simp] theorem oIx_t1 (a b c : PyData) : oIx (.tuple [a, b, c]) (.int 1) = .ok b := rfl
@[simp] theorem oIx_t2 (a b c : PyData) : oIx (.tuple [a, b, c]) (.int 2) = .ok c := rfl
end PD
set_option Elab.async false
set_option linter.all false
set_option maxRecDepth 100000
set_option maxHeartbeats 1000000
namespace PD
open PySem PySem.Spec PyProof.Rows L2 NtL
theorem dataLt_tu : ∀ a b : List Int, PySem.W.dataLt (tu a) (tu b) = HT.lexLt a b
  | [], [] => by rfl
  | [], y :: b => by
    show PySem.W.dataLt (.tuple []) (.tuple (.int y :: b.map .int)) = true
    rw [PySem.W.dataLt_tuple]
    rfl
  | x :: a, [] => by
    show PySem.W.dataLt (.tuple (.int x :: a.map .int)) (.tuple []) = false
    rw [PySem.W.dataLt_tuple]
    rfl
  | x :: a, y :: b => by
    have ih := dataLt_tu a b
    show PySem.W.dataLt (.tuple (.int x :: a.map .int)) (.tuple (.int y :: b.map .int)) = _
    change PySem.W.dataLt (.tuple (a.map .int)) (.tuple (b.map .int)) = _ at ih
    rw [PySem.W.dataLt_tuple] at ih
    rw [PySem.W.dataLt_tuple, PySem.W.dataLt_cons (by rfl), ih, PySem.W.dataLt_int, HT.lexLt_cons]
    by_cases e : x = y
    · rw [if_pos e, if_pos (by subst e; simp [PyData.eqv])]
    · rw [if_neg e, if_neg (by simp [PyData.eqv, e])]
theorem leT_total (a b : List Int) : (leT a b || leT b a) = true := by
  unfold leT
  cases e : HT.lexLt b a with
  | false => rfl
  | true => rw [lex_asym b a e]; rfl
theorem leT_trans (a b c : List Int) (h1 : leT a b = true) (h2 : leT b c = true) : leT a c = true := by
  unfold leT at *
  have e1 : HT.lexLt b a = false := by simpa using h1
  have e2 : HT.lexLt c b = false := by simpa using h2
  rw [lex_tr a b c e1 e2]
  rfl
theorem lex_ne : ∀ a b : List Int, HT.lexLt a b = false → HT.lexLt b a = false → a = b
  | [], [], _, _ => rfl
  | [], _ :: _, h, _ => by cases h
  | _ :: _, [], _, h => by cases h
  | x :: a, y :: b, h1, h2 => by
    rw [HT.lexLt_cons] at h1 h2
    by_cases e : x = y
    · rw [if_pos e] at h1
      rw [if_pos e.symm] at h2
      rw [e, lex_ne a b h1 h2]
    · rw [if_neg e] at h1
      rw [if_neg (Ne.symm e)] at h2
      have a := of_decide_eq_false h1
      have b := of_decide_eq_false h2
      omega
theorem sortT_eq (ls : List (List Int)) : sortT ls = ls.mergeSort leT := by
  have h : sortD (ls.map tu) = (ls.mergeSort leT).map tu := by
    unfold sortD
    refine (List.map_mergeSort (f := tu) (r := leT) (s := PySem.W.dataLe false id) (l := ls) fun a _ b _ => ?_).symm
    show leT a b = !(PySem.W.dataLt (tu b) (tu a))
    rw [dataLt_tu]
    rfl
  unfold sortT
  rw [h, List.map_map]
  exact List.map_id'' (fun l => unTu_tu l) _
theorem sortT_le (ls : List (List Int)) : (sortT ls).Pairwise fun a b => leT a b = true := by
  rw [sortT_eq]
  exact List.pairwise_mergeSort leT_trans leT_total ls
/-- rows in strictly ascending order -/
def Asd (ls : List (List Int)) : Prop := ls.Pairwise fun a b => HT.lexLt a b = true
theorem asd_of {ls : List (List Int)} (h : ls.Pairwise fun a b => leT a b = true) (n : ls.Nodup) : Asd ls := by
  refine (h.and n).imp fun {a b} ⟨h1, h2⟩ => ?_
  cases e : HT.lexLt a b with
  | true => rfl
  | false =>
    unfold leT at h1
    exact absurd (lex_ne a b e (by simpa using h1)) h2
theorem asd_sortT {ls : List (List Int)} (n : ls.Nodup) : Asd (sortT ls) := asd_of (sortT_le ls) ((sortT_perm ls).nodup_iff.mpr n)
theorem lex_irr (a : List Int) : HT.lexLt a a = false := by
  cases e : HT.lexLt a a with
  | false => rfl
  | true =>
    have z := lex_asym a a e
    rw [e] at z
    exact z
theorem Asd.nodup {ls : List (List Int)} (h : Asd ls) : ls.Nodup := h.imp fun {a b} e z => by
  subst z
  rw [lex_irr] at e
  cases e
/-- a sorted list is told by what is in it -/
theorem asd_ext {ls ks : List (List Int)} (h : Asd ls) (k : Asd ks) (e : ∀ x, x ∈ ls ↔ x ∈ ks) : ls = ks := by
  refine List.Perm.eq_of_pairwise (le := fun a b => HT.lexLt a b = true) ?_ h k ((List.perm_ext_iff_of_nodup h.nodup k.nodup).mpr e)
  intro a b _ _ h1 h2
  rw [lex_asym a b h1] at h2
  cases h2
end PD
set_option Elab.async false
set_option linter.all false
set_option maxRecDepth 100000
set_option maxHeartbeats 1000000
namespace PD
open PySem PySem.Spec PyProof.Rows L2
section
variable {X : Cx} {pins : List (Addr × Obj)} {σ : L2.St} {H : Hp} {s : Shared} {E : Value → Shared → Prop}
theorem addT_ok {D x : Addr} {L : List (Addr × List Int)} {k : List Int} {Q : Value → Shared → Prop} (hu : X.A.units + 64 < cLine) (I : Inv X pins σ H s) (hD : H D = some (SetTO X.prog X.w D L)) (hL : ∀ p ∈ L, SqT X.K H p.1 (p.2.map V.int)) (hx : SqT X.K H x (k.map V.int)) (few : L.length + 1 < 64)
    (h : ∀ s' L', Inv X pins σ (upd H D (SetTO X.prog X.w D L')) s' → (k ∈ L.map (·.2) → L' = L) → (k ∉ L.map (·.2) → L'.Perm ((x, k) :: L)) → Q .none s') : wpAny (model X.prog X.w) X.A (call (.builtin "set.add") [.ref D, .ref x]) Q E s := by
  obtain ⟨es, ep, t, R⟩ := SetT0.full (I.hok D _ hD).1 fun p hp => I.isT (hL p hp)
  have ty : s.TypeIs (.ref D) "set" := let ⟨o, ho, hc, _⟩ := R.ob; ⟨o, ho, hc.1⟩
  have kx := I.isT hx
  refine wpAny_call_entry F.slot_set_add ty F.entry_set_add ?_ (F.args_set_add_2 _ _)
  unfold Builtin.«set.add» Builtin.Frozenset.oneOther Builtin.Frozenset.addrOf setAdd
  simp only [bind_assoc, List.isEmpty_nil]
  refine wpAny_bind (wpAny_pure ?_)
  try dsimp only
  refine wpAny_bind (wpAny_pure ?_)
  try dsimp only
  refine wpAny_bind (wpAny_holding ?_)
  refine wpAny_bind (wpAny_pyHash_tuple (knd := intKind X.prog X.w) (show X.A.in1.units < cLine from (show X.A.units + 1 < cLine by omega)) kx ?_)
  refine add_at (P := X.prog) (w := X.w) (s := { s with toks := s.toks + (k.length + 1) }) R kx (show X.A.in1.units < cLine from (show X.A.units + 1 < cLine by omega)) few fun b h' L' es' ep' t' sb R' e1 e2 => ?_
  show wpAny (model X.prog X.w) _ (ret Value.none) _ _ _
  have he : ∃ u, h'.get? D = some u := let ⟨o, ho, _⟩ := R'.ob; ⟨o, ho⟩
  exact wpAny_pure ⟨_, rfl, h _ L' (I.write (e := D) (t' := s.toks + (k.length + 1)) (by rw [hD]; trivial) (.inl rfl) (fun b u hb hu => (sb.2 b hb).trans hu) he (setTO_new R'.t0)) e1 e2⟩
end
section
variable {X : Cx} {pins : List (Addr × Obj)} {σ : L2.St} {vs : List Nat} {s0 : Shared} {H0 : Hp} {scope : Scope} {fp : List Addr} {tn : Nat → Heap → Prop} {J : It} {tg : Expr} {it : Addr}
/-- what the rule asks of a turn -/
def memTurn (K : PySem.W.Frag) (P : Program) (w : World) (σ : L2.St) (vs : List Nat) (g : TG) (tt : TT) (tk : TE) (D : Addr) (Nx : Hp → Prop) (x : V) (H : Hp) : Prop :=
  g x (L2.wipe σ vs) H fun σ2 H2 => L2.wipe σ2 vs = L2.wipe σ vs ∧ tt σ2 H2 fun b H3 =>
    if b = true then tk σ2 H3 fun y H4 => ∃ L p k, y = .ref p ∧ H4 D = some (SetTO P w D L) ∧ (∀ q ∈ L, SqT K H4 q.1 (q.2.map V.int)) ∧ L.length + 1 < 64 ∧ SqT K H4 p (k.map V.int) ∧ ∀ L', (k ∈ L.map (·.2) → L' = L) → (k ∉ L.map (·.2) → L'.Perm ((p, k) :: L)) → Nx (upd H4 D (SetTO P w D L')) else Nx H3
def tScT (K : PySem.W.Frag) (P : Program) (w : World) (wi : TI) (g : TG) (tt : TT) (tk : TE) (vs : List Nat) : TE := fun σ H Q => wi σ H fun J H1 => ∀ D, H1 D = none → ∃ W : Nat → Nat → Hp → Prop, (∃ m, W 0 m (upd H1 D (SetTO P w D []))) ∧ ∀ i m H, W i m H →
  (J.stop i H ∧ Q (.ref D) H) ∨ (J.go i H ∧ ∃ Nx : Hp → Prop, (∀ H', Nx H' → ∃ m', m' < m ∧ W (i + 1) m' H') ∧ ∀ x H', J.yld i H x H' → memTurn K P w σ vs g tt tk D Nx x H')
theorem memLoop {kx iter : Expr} {ifs : List Expr} {pos : Pos} {g : TG} {tt : TT} {tk : TE} {D : Addr} {Q : VK} {R : Result → Shared → Prop} {W : Nat → Nat → Hp → Prop} {m0 : Nat}
    (hu : X.A.units + 64 < cLine) (hc : X.calm = true) (T : Turn X.prog X.w X.K tg J fp it tn)
    (pg : PG (inBlk X s0 scope H0 fp) tg g) (pt : PTs (inBlk X s0 scope H0 fp) ifs tt) (pk : PE (inBlk X s0 scope H0 fp) kx tk)
    (turn : ∀ i m H, W i m H → (J.stop i H ∧ Q (.ref D) H) ∨ (J.go i H ∧ ∃ Nx : Hp → Prop, (∀ H', Nx H' → ∃ m', m' < m ∧ W (i + 1) m' H') ∧ ∀ x H', J.yld i H x H' → memTurn X.K X.prog X.w σ vs g tt tk D Nx x H'))
    (over : ∀ H s, Inv (inBlk X s0 scope H0 fp) [] (L2.wipe σ vs) H s → Q (.ref D) H → R (.ok .next) s)
    {s : Shared} {H : Hp} (w0 : W 0 m0 H) (a0 : AtTurn X s0 H0 scope fp tn (L2.wipe σ vs) 0 H s) :
    codeAny (model X.prog X.w) X.A (.compLoop (.SetComp kx [⟨tg, iter, ifs, 0⟩] scope pos) 0 (.ref it) (.ref D) (envBlk X s0 scope)) R s := by
  refine PpSet.compLoopS_any (fun m s => ∃ i H, AtTurn X s0 H0 scope fp tn (L2.wipe σ vs) i H s ∧ W i m H) ?_ m0 ⟨0, H, a0, w0⟩
  intro m s1 ⟨i, H1, a1, w1⟩
  cases turn i m H1 w1 with
  | inl z =>
    refine thnF (T.done (inBlk X s0 scope H0 fp) rfl rfl rfl hc i [] s1 _ H1 (fun _ _ => False) a1.inv (fun b => a1.free) a1.own z.1) ?_
    rintro r s2 ⟨rfl, I2⟩
    exact over H1 s2 I2 z.2
  | inr z =>
    obtain ⟨go, Nx, less, each⟩ := z
    refine thnF (T.item (inBlk X s0 scope H0 fp) rfl rfl rfl hc i [] s1 _ H1 (fun _ _ => False) a1.inv (fun b => a1.free) a1.own go) ?_
    rintro r s2 ⟨u, rfl, hu2⟩
    refine thnF hu2 ?_
    rintro _ s3 ⟨x, H3, I3, rx, hx, t3, n3⟩
    have a3 : AtTurn X s0 H0 scope fp tn (L2.wipe σ vs) (i + 1) H3 s3 := ⟨I3, t3, n3⟩
    have done : ∀ {σ4 : L2.St} {s5 : Shared} {H5 : Hp}, L2.wipe σ4 vs = L2.wipe σ vs → Inv (inBlk X s0 scope H0 fp) ([] ++ pinsAt fp s3.heap) σ4 H5 s5 → Nx H5 →
        ∃ m', m' < m ∧ ∃ i H, AtTurn X s0 H0 scope fp tn (L2.wipe σ vs) i H s5 ∧ W i m' H := by
      intro σ4 s5 H5 e I5 nx
      obtain ⟨m', lt, w⟩ := less H5 nx
      exact ⟨m', lt, i + 1, H5, AtTurn.next (τ := σ) T e t3 I5, w⟩
    refine thnF (pg.run _ s3 _ H3 x u _ (I3.pinned (fun b => a3.free) (T.obj _ _ t3)) rx (each x H3 hx)) ?_
    rintro _ s4 ⟨σ4, H4, I4, e4, q4⟩
    refine thnF (pt.run _ s4 σ4 H4 _ I4 q4) ?_
    rintro b s5 ⟨H5, I5, q5⟩
    rcases b with _ | _
    · simp only [Bool.false_eq_true, if_false] at q5 ⊢
      exact done e4 I5 q5
    · simp only [if_true] at q5 ⊢
      refine thnF (pk.run _ s5 σ4 H5 _ I5 q5) ?_
      rintro kv s6 ⟨_, H6, I6, rk, L, p, k, rfl, hD, hL, few, hp, nx⟩
      cases rk
      exact addT_ok (X := inBlk X s0 scope H0 fp) hu I6 hD hL hp few fun s7 L' I7 n1 n2 => done e4 I7 (nx L' n1 n2)
end
section
variable {X : Cx} {kx tg iter : Expr} {ifs : List Expr} {scope : Scope} {own : List (Str × Nat)} {pos : Pos} {wi : TI} {g : TG} {tt : TT} {tk : TE}
theorem pe_scT (hu : X.A.units + 64 < cLine) (hc : X.calm = true) (hN : X.N.Nodup) (hi : PI X tg iter wi) (ok : BlkOk X.N X.env.scope scope own)
    (hg : ∀ (s : Shared) (H : Hp) (C : Addr) (cl : List (Str × Addr)) (fp : List Addr), PG (X.blk s H scope (compEnvC scope cl C X.env) fp) tg g) (ht : ∀ (s : Shared) (H : Hp) (C : Addr) (cl : List (Str × Addr)) (fp : List Addr), PTs (X.blk s H scope (compEnvC scope cl C X.env) fp) ifs tt)
    (hk : ∀ (s : Shared) (H : Hp) (C : Addr) (cl : List (Str × Addr)) (fp : List Addr), PE (X.blk s H scope (compEnvC scope cl C X.env) fp) kx tk)
    (hs : ∀ x, foldedSetIterable iter X.env x = pure x := by intro _; rfl) :
    PE X (.SetComp kx [⟨tg, iter, ifs, 0⟩] scope pos) (tScT X.K X.prog X.w wi g tt tk (own.map (·.2))) := by
  have P := KeyParts.of (Nat.lt_of_le_of_lt (Nat.le_add_right _ _) hu) hc hN hi ok hg ht hk hs
  constructor
  intro pins s σ H Q I h
  rw [PpSet.eval_SetComp]
  have cells : ∀ y ∈ scope.names, y.2 = .free → ∃ c, X.env.cells.lookup y.1 = some c := by
    intro y hy e
    cases P.blk.free y hy e with
    | inl z => exact I.ok.has _ (.inl z)
    | inr z => exact I.ok.has _ (.inr z)
  have locs : ∀ y ∈ scope.names, y.2 = .local → scope.names.lookup y.1 = some .local := fun y hy e => (P.blk.uniq y hy).trans (congrArg some e)
  refine wpAny_comprehension_free (use := none) rfl P.plain (closure_ok cells) P.blk.kind locs ?_
  refine thn (P.walk.run pins s σ H _ I h) ?_
  intro x s1 h1
  refine thn h1 ?_
  rintro _ s2 ⟨it, fp, tn, J, H2, rfl, I2, T, t2, f2, h2⟩
  refine PpSet.newSet_ok ?_
  obtain ⟨W, ⟨m0, w0⟩, turn⟩ := h2 s2.heap.objs.size (I2.hok.fresh (Nat.le_refl _))
  have fresh : (s2.heap.push { cls := .type "set", dict := none, data := .set #[] 0 (.fresh 0 0 (!X.w.params.followText "set-order")) }).get? s2.heap.objs.size = some { cls := .type "set", dict := none, data := .set #[] 0 (.fresh 0 0 (!X.w.params.followText "set-order")) } := Heap.get?_push_size _ rfl
  have I3 : Inv X pins σ (upd H2 s2.heap.objs.size (SetTO X.prog X.w s2.heap.objs.size [])) { s2 with heap := s2.heap.push { cls := .type "set", dict := none, data := .set #[] 0 (.fresh 0 0 (!X.w.params.followText "set-order")) } } :=
    I2.laid (t' := s2.toks) (fun b o e => Heap.get?_push_of_some _ e) (Nat.le_refl _) (setTO_new (setTR_fresh fresh).t0)
  have f3 : ∀ b ∈ fp, FpOk X pins (upd H2 s2.heap.objs.size (SetTO X.prog X.w s2.heap.objs.size [])) b ∧ b < (s2.heap.push { cls := .type "set", dict := none, data := .set #[] 0 (.fresh 0 0 (!X.w.params.followText "set-order")) }).objs.size := by
    intro b hb
    obtain ⟨o, hbo, -⟩ := T.obj _ _ t2 b hb
    have lt : b < s2.heap.objs.size := Heap.lt_size hbo
    refine ⟨⟨(upd_ne (Nat.ne_of_lt lt)).trans (f2 b hb).1, (f2 b hb).2⟩, ?_⟩
    rw [Heap.size_push]
    exact Nat.lt_succ_of_lt lt
  have t3 := T.keep _ _ (s2.heap.push { cls := .type "set", dict := none, data := .set #[] 0 (.fresh 0 0 (!X.w.params.followText "set-order")) }) t2 fun b _ o e => Heap.get?_push_of_some _ e
  refine newEnv_comp ?_
  have t4 := T.keep _ _ (pushCells ((s2.heap.push { cls := .type "set", dict := none, data := .set #[] 0 (.fresh 0 0 (!X.w.params.followText "set-order")) }).push { cls := .type "dict", data := .dict #[] }) scope.names) t3 fun b _ o e => pushCells_keeps _ _ _ _ (Heap.get?_push_of_some _ e)
  have loop := memLoop (σ := σ) (vs := own.map (·.2)) (pos := pos) (R := compPost (model X.prog X.w) X.A X.xe none (fun u s' => ∃ v H', Inv X pins σ H' s' ∧ RelV v u ∧ Q v H') (.ref s2.heap.objs.size) (s2.heap.push { cls := .type "set", dict := none, data := .set #[] 0 (.fresh 0 0 (!X.w.params.followText "set-order")) }).objs.size) (iter := iter)
    hu P.calm T (P.tgt _ _ fp) (P.test _ _ fp) (P.key _ _ fp) turn
    (fun H5 s5 I5 q => by
      obtain ⟨I6, f6, m, hm⟩ := AtTurn.leave I3 (fun b hb => (f3 b hb).1) I5
      refine ⟨m, hm, fun h2 sb => ⟨.ref _, H5, FpOk_drop f6 I6 ?_, rfl, q⟩⟩
      intro b o hb e
      rw [← e]
      exact sb.2 b hb)
    w0 ⟨block_start I3 P.blk P.nd f3, t4, fun b hb => (f3 b hb).1.1⟩
  exact PpSet.codeAny_compStart_set loop (T.self X.A 0 _ _ _ t4 loop)
end
end PD
set_option Elab.async false
set_option linter.all false
set_option maxRecDepth 100000
set_option maxHeartbeats 1000000
namespace PD
open PySem PySem.Spec PyProof.Rows L2
theorem perm_map_inv {α β : Type} (f : α → β) {ws vs : List β} (h : ws.Perm vs) : ∀ {L : List α}, ws = L.map f → ∃ L1 : List α, L1.Perm L ∧ vs = L1.map f := by
  induction h with
  | nil =>
    intro L e
    have : L = [] := List.map_eq_nil_iff.mp e.symm
    subst this
    exact ⟨[], .refl _, rfl⟩
  | cons x _ ih =>
    intro L e
    obtain ⟨y, ys, rfl, rfl, e2⟩ := List.map_eq_cons_iff.mp e.symm
    obtain ⟨L1, p1, e1⟩ := ih e2.symm
    exact ⟨y :: L1, p1.cons y, by rw [e1]; rfl⟩
  | swap x y l =>
    intro L e
    obtain ⟨a, as, rfl, rfl, e2⟩ := List.map_eq_cons_iff.mp e.symm
    obtain ⟨b, bs, rfl, rfl, e3⟩ := List.map_eq_cons_iff.mp e2
    exact ⟨b :: a :: bs, .swap a b bs, by rw [← e3]; rfl⟩
  | trans _ _ ih1 ih2 =>
    intro L e
    obtain ⟨L1, p1, e1⟩ := ih1 e
    obtain ⟨L2, p2, e2⟩ := ih2 e1
    exact ⟨L2, p2.trans p1, e2⟩
def tuD (q : Addr × List Int) : PyData := .tuple (q.2.map .int)
theorem rp_tups {K : PySem.W.Frag} {G : Hp} : ∀ {L : List (Addr × List Int)}, (∀ q ∈ L, SqT K G q.1 (q.2.map V.int) ∧ q.2.length ≤ sizeLine) → RpAll K G (L.map fun q => V.ref q.1) (L.map tuD)
  | [], _ => .nil
  | q :: L, h => .cons (.tup (h q List.mem_cons_self).1 (by rw [List.length_map]; exact (h q List.mem_cons_self).2) (rp_intsV q.2)) (rp_tups fun r hr => h r (List.mem_cons_of_mem _ hr))
def rSortScT (K : PySem.W.Frag) (P : Program) (w : World) : List V → Hp → VK → Prop := fun vs H Q => ∃ (G : Hp) (a : Addr) (L : List (Addr × List Int)), vs = [V.ref a] ∧ Sub G H ∧ H a = some (SetTO P w a L) ∧ (∀ q ∈ L, SqT K G q.1 (q.2.map V.int) ∧ q.2.length ≤ sizeLine) ∧
  ∀ (p : Addr) (L1 : List (Addr × List Int)) (ys : List V), L1.Perm L → H p = none → ys.length < 64 → RpAll K G ys (sortD (L1.map tuD)) → Q (.ref p) (upd H p (.lst ys))
theorem cr_sortScT {X : Cx} (hc : X.calm = true) (hu : X.A.units + 64 < cLine) : CallR X (.builtin "sorted") (rSortScT X.K X.prog X.w) := by
  intro pins s σ H vs us Q I r h
  obtain ⟨G, a, L, rfl, sub, ha, hk, q⟩ := h
  rw [Vals.ref1 r]
  obtain ⟨es, ep, t, R⟩ := SetT0.full (I.hok a _ ha).1 fun p hp => I.isT (sub.sqT (hk p hp).1)
  obtain ⟨o, ho, hex, hd⟩ := R.ob
  have hsz := R.size
  have hfew := R.few
  refine Calls.call_function_entry kind_sorted plain_sorted entry_sorted (args_sorted1 _) ?_
  unfold Builtin.«sorted»
  refine wpAny_bind (m := checkCount "sorted" 1 1 _) (wpAny_pure ?_)
  refine wpAny_bind (collect_set (A := X.A.in1) (I.ok.hd hc) ⟨o, ho, hex.1, hd⟩ R.fits (by unfold scanBound; omega) R.tab.ris R.led fun s1 vs k1 hz g1 o1 pm => ?_)
  have hes : es.toList.map (·.2) = L.map fun q => Value.ref q.1 := by
    rw [R.rows]
    unfold rowsOf
    rw [List.map_map]; rfl
  rw [hes] at pm
  obtain ⟨L1, pL, rfl⟩ := perm_map_inv (fun q : Addr × List Int => Value.ref q.1) pm.symm rfl
  have hvl : (L1.map fun q => Value.ref q.1).length < 64 := by rw [List.length_map, pL.length_eq]; exact hfew
  have hk1 : ∀ q ∈ L1, SqT X.K G q.1 (q.2.map V.int) ∧ q.2.length ≤ sizeLine := fun q hq => hk q (pL.mem_iff.mp hq)
  have ra := rp_tups hk1
  have rv : Vals (L1.map fun q => V.ref q.1) (L1.map fun q => Value.ref q.1) := vals_of_refs L1
  have alk : ∀ d ∈ L1.map tuD, ∀ e ∈ L1.map tuD, PySem.W.alike d e = true := fun d hd e he => by
    obtain ⟨x, _, rfl⟩ := List.mem_map.mp hd
    obtain ⟨y, _, rfl⟩ := List.mem_map.mp he
    unfold tuD
    rw [PySem.W.alike]
    exact alike_ints x.2 y.2
  have al : PySem.W.AllAlike (L1.map tuD) := alk
  have er := rpAll_reads I sub ra rv fun d hd => nod_of_alike (alk d hd d hd)
  have ev := rpAll_each ra rv
  refine wpAny_bind (wpAny_newList ?_ (by rw [sizeLine_eq]; omega))
  have hoL : (s1.heap.push (seqObj "list" (L1.map fun q => Value.ref q.1).toArray 0)).get? s1.heap.objs.size = some (seqObj "list" (L1.map fun q => Value.ref q.1).toArray 0) := Heap.get?_push_size _ rfl
  have kp : ∀ b u, s.heap.get? b = some u → (PySem.W.sortingHeap (s1.heap.push (seqObj "list" (L1.map fun q => Value.ref q.1).toArray 0)) s1.heap.objs.size (L1.map fun q => Value.ref q.1)).get? b = some u := fun b u e => by
    have e1 := k1 b u e
    exact PySem.W.sortingHeap_old (Nat.ne_of_lt (Heap.lt_size e1)) (Heap.get?_push_of_some _ e1)
  have er' : PySem.W.EachIs (fun v d => ∃ as, Reads (PySem.W.sortingHeap (s1.heap.push (seqObj "list" (L1.map fun q => Value.ref q.1).toArray 0)) s1.heap.objs.size (L1.map fun q => Value.ref q.1)) v d as) (L1.map fun q => Value.ref q.1) (L1.map tuD) := er.mono fun _ _ ⟨as, r⟩ => ⟨as, PyProof.Rows.Reads.keeps kp r⟩
  have dep : ∀ d, d ∈ L1.map tuD → X.A.in1.in1.units + d.depth < cLine := fun d hd => by
    obtain ⟨x, _, rfl⟩ := List.mem_map.mp hd
    have : (tuD x).depth ≤ 1 := (dep_tu x.2).2
    show X.A.units + 1 + 1 + (tuD x).depth < cLine
    omega
  have S : PySem.W.SortsAt X.prog X.w X.A.in1.in1 { s1 with heap := PySem.W.sortingHeap (s1.heap.push (seqObj "list" (L1.map fun q => Value.ref q.1).toArray 0)) s1.heap.objs.size (L1.map fun q => Value.ref q.1) } (PySem.W.dataKind (PySem.W.sortingHeap (s1.heap.push (seqObj "list" (L1.map fun q => Value.ref q.1).toArray 0)) s1.heap.objs.size (L1.map fun q => Value.ref q.1)) (L1.map tuD)) (L1.map fun q => Value.ref q.1) :=
    PySem.W.SortsAt.tuples (s := { s1 with heap := PySem.W.sortingHeap (s1.heap.push (seqObj "list" (L1.map fun q => Value.ref q.1).toArray 0)) s1.heap.objs.size (L1.map fun q => Value.ref q.1) }) er' al (fun d hd => by obtain ⟨x, _, rfl⟩ := List.mem_map.mp hd; exact ⟨_, rfl⟩) dep
  have eo := PySem.W.sortVals_data (h' := PySem.W.sortingHeap (s1.heap.push (seqObj "list" (L1.map fun q => Value.ref q.1).toArray 0)) s1.heap.objs.size (L1.map fun q => Value.ref q.1)) (enc := id) false ev (er'.mono fun _ _ h => h) (by rw [List.map_id]; exact al)
  rw [List.map_id] at eo
  obtain ⟨ys, hy1, hy2⟩ := each_rpAll eo
  have hyl : ys.length < 64 := by
    have e1 : ys.length = (L1.map tuD).length := hy2.length.trans (List.length_mergeSort _)
    rw [e1, List.length_map, pL.length_eq]; exact hfew
  generalize hV : (L1.map fun q => Value.ref q.1) = vs at *
  generalize hO : PySem.W.sortVals (PySem.W.dataKind (PySem.W.sortingHeap (s1.heap.push (seqObj "list" vs.toArray 0)) s1.heap.objs.size vs) (L1.map tuD)) false vs vs = out at *
  obtain ⟨c, hcl⟩ := sortedHeap_at (vs := vs) (out := out.toArray) hoL
  have hn : H s1.heap.objs.size = none := I.hok.fresh hz
  have k2 : ∀ b u, s.heap.get? b = some u → (sortedHeap (s1.heap.push (seqObj "list" vs.toArray 0)) s1.heap.objs.size vs out.toArray).get? b = some u := fun b u e => by
    have e1 := k1 b u e
    have hlt := Heap.lt_size e1
    rw [sortedHeap_old (Nat.ne_of_lt hlt) (by rw [size_push']; exact Nat.lt_succ_of_lt hlt)]
    exact Heap.get?_push_of_some _ e1
  have done : Q (.ref s1.heap.objs.size) (upd H s1.heap.objs.size (.lst ys)) := q _ L1 ys pL hn hyl hy2
  have J : Inv X pins σ (upd H s1.heap.objs.size (.lst ys)) { s with heap := sortedHeap (s1.heap.push (seqObj "list" vs.toArray 0)) s1.heap.objs.size vs out.toArray, gens := s1.gens, drawn := s1.drawn, toks := s1.toks } :=
    I.call (ch := []) (Un.laid k2 hz hn) (I.hok.laid k2 hz ⟨by rw [sizeLine_eq]; omega, out, c, hy1, hcl⟩) (by rw [g1]; exact I.bare) (fun _ z => nomatch z)
  have es1 : ({ s1 with heap := sortedHeap (s1.heap.push (seqObj "list" vs.toArray 0)) s1.heap.objs.size vs out.toArray } : Shared) = { s with heap := sortedHeap (s1.heap.push (seqObj "list" vs.toArray 0)) s1.heap.objs.size vs out.toArray, gens := s1.gens, drawn := s1.drawn, toks := s1.toks } := by rw [o1]
  refine wpAny_bind (wpAny_holding (wpAny_call_entry slot_list_sort ⟨_, hoL, rfl⟩ entry_list_sort (PySem.W.list_sort_vals (s := { s1 with heap := s1.heap.push (seqObj "list" vs.toArray 0) }) hoL S (by rw [sizeLine_eq]; omega) ⟨_, rfl, ?_⟩) (args_list_sort _)))
  rw [hO]
  refine wpAny_pure ⟨_, rfl, ?_⟩
  show EP X pins σ Q _ ({ s1 with heap := sortedHeap (s1.heap.push (seqObj "list" vs.toArray 0)) s1.heap.objs.size vs out.toArray } : Shared)
  rw [es1]
  exact ⟨.ref _, _, J, rfl, done⟩
end PD
set_option Elab.async false
set_option linter.all false
set_option maxRecDepth 100000
set_option maxHeartbeats 1000000
namespace PD
open PySem PySem.Spec PyProof.Rows L2
def dSortSc (fi : DnL) (t : Tg) (ft : DnB) (fe : Dn) (vs : List Nat) : Dn := fun ρ => fi ρ >>= fun ds => nx (dcGo t ft fe (wipeR ρ vs) ds []) fun ks => if ks.length < 63 ∧ (ks.all fun k => decide (k.length ≤ sizeLine)) = true then .ok (.list (sortD (ks.map fun k => .tuple (k.map .int)))) else .bad
theorem dcGo_more {t : Tg} {ft : DnB} {fk : Dn} {ρ : Rho} : ∀ {ds : List PyData} {acc ks : List (List Int)}, dcGo t ft fk ρ ds acc = .ok ks → acc.length ≤ ks.length ∧ ∀ k ∈ acc, k ∈ ks
  | [], acc, ks, h => by cases h; exact ⟨Nat.le_refl _, fun _ h => h⟩
  | d :: ds, acc, ks, h => by
    unfold dcGo at h
    cases et : t.set d ρ with
    | none => rw [et] at h; cases h
    | some ρ1 =>
      rw [et] at h
      obtain ⟨b, _, h⟩ := nx_ok h
      cases b with
      | false => exact dcGo_more h
      | true =>
        obtain ⟨y, _, h⟩ := nx_ok h
        cases ek : asTu y with
        | none => rw [ek] at h; cases h
        | some k =>
          rw [ek] at h
          obtain ⟨h1, h2⟩ := dcGo_more h
          split at h1
          · rename_i hk
            rw [if_pos hk] at h2
            exact ⟨h1, h2⟩
          · rename_i hk
            rw [if_neg hk] at h2
            rw [List.length_append] at h1
            exact ⟨by omega, fun k' h' => h2 k' (List.mem_append_left _ h')⟩
theorem sortD_perm {as bs : List (List Int)} (p : as.Perm bs) : sortD (as.map fun k => PyData.tuple (k.map .int)) = sortD (bs.map fun k => PyData.tuple (k.map .int)) := by
  have h : ∀ ls : List (List Int), sortD (ls.map fun k => PyData.tuple (k.map .int)) = (sortT ls).map tu := fun ls => (sortD_tus ls).1
  rw [h, h]
  congr 1
  rw [sortT_eq, sortT_eq]
  have q : (as.mergeSort leT).Perm (bs.mergeSort leT) := (List.mergeSort_perm as leT).trans (p.trans (List.mergeSort_perm bs leT).symm)
  have w1 := sortT_le as
  have w2 := sortT_le bs
  rw [sortT_eq] at w1 w2
  exact List.Perm.eq_of_pairwise (le := fun a b => leT a b = true) (fun a b _ _ h1 h2 => by unfold leT at h1 h2; exact lex_ne a b (by simpa using h2) (by simpa using h1)) w1 w2 q
theorem plain_setT (P : Program) (w : World) (a : Addr) (L : List (Addr × List Int)) : Plain (SetTO P w a L) := plain_ext fun n q x => by
  obtain ⟨es, ep, t, ⟨o, h1, _, h3⟩, _⟩ := SetT0.ex x
  rw [codeHeap_get h1] at h3
  cases h3
theorem setT_xd {P : Program} {w : World} {a : Addr} {L : List (Addr × List Int)} : ∀ fs, SetTO P w a L ≠ .xd fs := fun _ z => by cases z
section
variable {X : Cx} {Tb : List Addr} {W : WX}
theorem sc_walk {K : PySem.W.Frag} {P : Program} {w : World} {t : Tg} {ft : DnB} {fk : Dn} {fi : DnL} {vs : List Nat} {σ : L2.St} {H : Hp} {Q : VK} (hv : ∀ i ∈ t.ixs, i ∈ vs) (h : tD K Tb W (dSortSc fi t ft fk vs) σ H Q) :
    tScT K P w (tI K Tb W fi) (tG K Tb t) (tDT K Tb W0 ft) (tD K Tb W0 fk) vs σ H (fun x H1 => rSortScT K P w [x] H1 Q) := by
  obtain ⟨H0, O0, O, ρ, st, h⟩ := h
  refine ⟨H0, O0, O, ρ, st, Post.then h fun ds J H1 e it k => ?_⟩
  cases q : dcGo t ft fk (wipeR ρ vs) ds [] with
  | exc x => rw [q] at k; exact k.elim
  | bad => rw [q] at k; exact k.elim
  | ok ks =>
    rw [q, nx_ok'] at k
    split at k
    case isFalse => exact k.elim
    rename_i lim
    have st1 := st.step e
    intro D nD
    have aD : D ∉ O := st1.fresh nD
    have stw := (st1.wiped vs).more (o := SetTO P w D []) nD (plain_setT P w D [])
    have aD0 : D ∉ O0 := fun m => aD (st1.sub D m)
    have own : ∀ (i : Nat) (s : Sl), s.Hold → (wipeR ρ vs)[i]? = some (some s) → (L2.wipe σ vs)[i]? ≠ some (some (.ref D)) := fun i s hs h1 h2 => aD ((st1.wiped vs).hold hs h1 h2).1
    have nO : ∀ b ∈ D :: O, hide O H1 b = none := fun b hb => by
      rcases List.mem_cons.mp hb with rfl | hb
      · exact hide_none nD
      · exact hide_in hb
    refine ⟨fun i m H' => i ≤ ds.length ∧ m = ds.length - i ∧ ∃ L acc, St0 K Tb H0 O0 (D :: O) H' (L2.wipe σ vs) (wipeR ρ vs) ∧ Ext H1 H' ∧ H' D = some (SetTO P w D L) ∧ (∀ q ∈ L, SqT K (hide (D :: O) H') q.1 (q.2.map V.int)) ∧ (L.map (·.2)).Perm acc ∧ dcGo t ft fk (wipeR ρ vs) (ds.drop i) acc = .ok ks,
      ⟨ds.length, Nat.zero_le _, by simp, [], [], stw, Ext.new nD, upd_same, by simp, .refl _, q⟩, ?_⟩
    rintro i m H' ⟨hi, rfl, L, acc, s1, e1, hD, hk, pm, go⟩
    have eG : Ext (hide O H1) H' := Ext.unhide.trans e1
    have few := (dcGo_more go).1
    have ll : L.length = acc.length := by rw [← pm.length_eq, List.length_map]
    by_cases hlt : i < ds.length
    · refine .inr ⟨it.go i H' eG hlt, fun H2 => i + 1 ≤ ds.length ∧ ∃ L acc, St0 K Tb H0 O0 (D :: O) H2 (L2.wipe σ vs) (wipeR ρ vs) ∧ Ext H1 H2 ∧ H2 D = some (SetTO P w D L) ∧ (∀ q ∈ L, SqT K (hide (D :: O) H2) q.1 (q.2.map V.int)) ∧ (L.map (·.2)).Perm acc ∧ dcGo t ft fk (wipeR ρ vs) (ds.drop (i + 1)) acc = .ok ks,
        fun H2 q => ⟨ds.length - (i + 1), by omega, q.1, rfl, q.2⟩, fun x H2 y => ?_⟩
      obtain ⟨e2, d, hd, rx⟩ := it.yld i H' (D :: O) x H2 eG nO s1.al hlt y
      have hdr : ds.drop i = d :: ds.drop (i + 1) := by
        obtain ⟨hl, hd'⟩ := List.getElem?_eq_some_iff.mp hd
        rw [List.drop_eq_getElem_cons hl, hd']
      rw [hdr] at go
      unfold dcGo at go
      cases et : t.set d (wipeR ρ vs) with
      | none => rw [et] at go; cases go
      | some ρ1 =>
        rw [et] at go
        obtain ⟨b, eb, go⟩ := nx_ok go
        have s2 := s1.step e2
        refine ⟨H0, O0, D :: O, wipeR ρ vs, ρ1, d, s2, rx, et, fun σ' st' ag => ⟨(ag.wipe hv).trans wipe_wipe, H0, O0, D :: O, ρ1, st', ?_⟩⟩
        rw [eb]
        intro b' H3 e3 r3
        cases (show b' = b from r3)
        have s3 := st'.step e3
        cases b with
        | false =>
          exact ⟨hlt, L, acc, s2.step e3, (e1.trans e2).trans e3, (e2.trans e3).keep D _ hD (fun _ q => by cases q), fun x hx => (Sub.hide (e2.trans e3).keep).sqT (hk x hx), pm, go⟩
        | true =>
          obtain ⟨yd, ey1, go⟩ := nx_ok go
          refine ⟨H0, O0, D :: O, ρ1, s3, ?_⟩
          rw [ey1]
          intro y H4 e4 r4
          cases ek : asTu yd with
          | none => rw [ek] at go; cases go
          | some key =>
            rw [ek] at go
            obtain ⟨p, rfl, hp⟩ := asTu_rp r4 ek
            have e24 := (e2.trans e3).trans e4
            have hD4 := e24.keep D _ hD (fun _ q => by cases q)
            have s4 := (s2.step e3).step e4
            have hk4 : ∀ x ∈ L, SqT K (hide (D :: O) H4) x.1 (x.2.map V.int) := fun x hx => (Sub.hide e24.keep).sqT (hk x hx)
            refine ⟨L, p, key, rfl, hD4, fun x hx => Sub.unhide.sqT (hk4 x hx), by have := lim.1; omega, Sub.unhide.sqT hp, fun L' n1 n2 => ⟨hlt, L', if key ∈ acc then acc else acc ++ [key], s4.hidO List.mem_cons_self aD0 hD4 (plain_setT P w D _) (plain_setT P w D _) own setT_xd, (e1.trans e24).updN nD (fun c q z => (plain_setT P w D _).1 c q (Option.some.inj (hD4.symm.trans z))), upd_same, ?_, ?_, go⟩⟩
            · rw [hide_upd List.mem_cons_self]
              by_cases c : key ∈ L.map (·.2)
              · rw [n1 c]; exact hk4
              · intro x hx
                rcases List.mem_cons.mp ((n2 c).mem_iff.mp hx) with rfl | hx
                · exact hp
                · exact hk4 x hx
            · by_cases c : key ∈ L.map (·.2)
              · rw [n1 c, if_pos (pm.mem_iff.mp c)]; exact pm
              · rw [if_neg (fun z => c (pm.mem_iff.mpr z))]
                exact ((n2 c).map (fun x : Addr × List Int => x.2)).trans ((pm.cons key).trans (List.perm_append_singleton key acc).symm)
    · have ei : i = ds.length := by omega
      subst ei
      refine .inl ⟨it.stop H' eG, ?_⟩
      rw [List.drop_length] at go
      cases go
      refine ⟨hide (D :: O) H', D, L, rfl, Sub.unhide, hD, fun q hq => ⟨hk q hq, ?_⟩, fun p L1 ys pL hp hy ry => ?_⟩
      · exact of_decide_eq_true (List.all_eq_true.mp lim.2 q.2 (pm.mem_iff.mp (List.mem_map.mpr ⟨q, hq, rfl⟩)))
      · have e1' : L1.map tuD = (L1.map (·.2)).map fun k => PyData.tuple (k.map .int) := by rw [List.map_map]; rfl
        rw [e1', sortD_perm ((pL.map (·.2)).trans pm)] at ry
        have pO : p ∉ D :: O := fun m => s1.al p m hp
        refine k (.ref p) _ (e1.trans (Ext.new hp)) (.lst (xs := ys) (.of ?_) ?_ (ry.mono fun b o hb _ => ?_))
        · rw [hide_out (fun m => pO (List.mem_cons_of_mem _ m)), upd_same]
        · rw [← ry.length, sizeLine_eq]; omega
        · obtain ⟨n1, hb⟩ := hide_some hb
          rw [hide_out (fun m => n1 (List.mem_cons_of_mem _ m)), upd_ne (ne_of_none hb hp)]
          exact hb
variable {kx tg iter : Expr} {ifs : List Expr} {scope : Scope} {own : List (Str × Nat)} {pos pos2 p : Pos}
/-- sorted({e for t in i if c}) -/
theorem fd_sortSc {k : Nat} {fi : DnL} {t : Tg} {ft : DnB} {fk : Dn} (hr : Room k X.A) (B : Bi X.mg) (hc : X.calm = true) (hN : X.N.Nodup) (hi : PI X tg iter (tI X.K Tb W fi)) (ok : BlkOk X.N X.env.scope scope own)
    (hg : ∀ (s : Shared) (H : Hp) (C : Addr) (cl : List (Str × Addr)) (fp : List Addr), PG (X.blk s H scope (compEnvC scope cl C X.env) fp) tg (tG X.K Tb t))
    (ht : ∀ (s : Shared) (H : Hp) (C : Addr) (cl : List (Str × Addr)) (fp : List Addr), PTs (X.blk s H scope (compEnvC scope cl C X.env) fp) ifs (tDT X.K Tb W0 ft))
    (hk : ∀ (s : Shared) (H : Hp) (C : Addr) (cl : List (Str × Addr)) (fp : List Addr), PE (X.blk s H scope (compEnvC scope cl C X.env) fp) kx (tD X.K Tb W0 fk))
    (hg1 : Gl X "sorted" := by rfl) (hv : ∀ i ∈ t.ixs, i ∈ own.map (·.2) := by decide) (hs : ∀ x, foldedSetIterable iter X.env x = pure x := by intro _; rfl)
    (n2 : starEach [.SetComp kx [⟨tg, iter, ifs, 0⟩] scope pos2] X.env = (false, eval (.SetComp kx [⟨tg, iter, ifs, 0⟩] scope pos2) X.env) :: starEach [] X.env := by rfl) :
    PE X (.Call (.Name "sorted" p) [.SetComp kx [⟨tg, iter, ifs, 0⟩] scope pos2] [] pos) (tD X.K Tb W (dSortSc fi t ft fk (own.map (·.2)))) :=
  (pe_callB (cr_sortScT hc hr.u64) hg1 B.sorted boot_sorted (pa_cons (pe_scT hr.u64 hc hN hi ok hg ht hk hs) pa_nil n2) (by decide) (by decide) n2 (by rfl)).by fun σ H Q h => sc_walk hv h
end
end PD
set_option Elab.async false
set_option linter.all false
set_option maxRecDepth 100000
set_option maxHeartbeats 1000000
namespace PD
open PySem PySem.Spec PyProof.Rows L2
section
variable {X : Cx} {Tb : List Addr} {W : WX}
theorem sc_walkE {K : PySem.W.Frag} {P : Program} {w : World} {t : Tg} {ft : DnB} {fk : Dn} {fi : DnL} {vs : List Nat} {σ : L2.St} {H : Hp} {Q' : VK} {H0 : Hp} {O0 O : List Addr} {ρ : Rho} (hv : ∀ i ∈ t.ixs, i ∈ vs) (st : St0 K Tb H0 O0 O H σ ρ)
    (h : Post K O (RlD K O) (fun c d H => W c d σ H) H (dSortSc fi t ft fk vs ρ) fun _ _ => True)
    (fin : ∀ (a : Addr) (L : List (Addr × List Int)) (H' : Hp) (ks : List (List Int)), dSortSc fi t ft fk vs ρ = .ok (.list (sortD (ks.map fun k => .tuple (k.map .int)))) → Ext H H' → H' a = some (SetTO P w a L) → (L.map (·.2)).Perm ks → (∀ q ∈ L, SqT K (hide O H') q.1 (q.2.map V.int) ∧ q.2.length ≤ sizeLine) → Q' (.ref a) H') :
    tScT K P w (tI K Tb W fi) (tG K Tb t) (tDT K Tb W0 ft) (tD K Tb W0 fk) vs σ H Q' := by
  refine ⟨H0, O0, O, ρ, st, ?_⟩
  have hd : dSortSc fi t ft fk vs ρ = (fi ρ >>= fun ds => nx (dcGo t ft fk (wipeR ρ vs) ds []) fun ks => if ks.length < 63 ∧ (ks.all fun k => decide (k.length ≤ sizeLine)) = true then .ok (.list (sortD (ks.map fun k => .tuple (k.map .int)))) else .bad) := rfl
  rw [hd] at h
  cases qf : fi ρ with
  | bad => rw [qf] at h; exact h.elim
  | exc x => rw [qf] at h; exact h
  | ok ds =>
  intro J H1 e it
  rw [qf] at h
  rw [hd, qf, R.bind_ok] at fin
  rw [R.bind_ok] at h
  cases q : dcGo t ft fk (wipeR ρ vs) ds [] with
  | exc x => rw [q] at h; exact h.elim
  | bad => rw [q] at h; exact h.elim
  | ok ks =>
    rw [q, nx_ok'] at h fin
    split at h
    case isFalse => exact h.elim
    rename_i lim
    rw [if_pos lim] at fin
    have st1 := st.step e
    intro D nD
    have aD : D ∉ O := st1.fresh nD
    have stw := (st1.wiped vs).more (o := SetTO P w D []) nD (plain_setT P w D [])
    have aD0 : D ∉ O0 := fun m => aD (st1.sub D m)
    have own : ∀ (i : Nat) (s : Sl), s.Hold → (wipeR ρ vs)[i]? = some (some s) → (L2.wipe σ vs)[i]? ≠ some (some (.ref D)) := fun i s hs h1 h2 => aD ((st1.wiped vs).hold hs h1 h2).1
    have nO : ∀ b ∈ D :: O, hide O H1 b = none := fun b hb => by
      rcases List.mem_cons.mp hb with rfl | hb
      · exact hide_none nD
      · exact hide_in hb
    refine ⟨fun i m H' => i ≤ ds.length ∧ m = ds.length - i ∧ ∃ L acc, St0 K Tb H0 O0 (D :: O) H' (L2.wipe σ vs) (wipeR ρ vs) ∧ Ext H1 H' ∧ H' D = some (SetTO P w D L) ∧ (∀ q ∈ L, SqT K (hide (D :: O) H') q.1 (q.2.map V.int)) ∧ (L.map (·.2)).Perm acc ∧ dcGo t ft fk (wipeR ρ vs) (ds.drop i) acc = .ok ks,
      ⟨ds.length, Nat.zero_le _, by simp, [], [], stw, Ext.new nD, upd_same, by simp, .refl _, q⟩, ?_⟩
    rintro i m H' ⟨hi, rfl, L, acc, s1, e1, hD, hk, pm, go⟩
    have eG : Ext (hide O H1) H' := Ext.unhide.trans e1
    have few := (dcGo_more go).1
    have ll : L.length = acc.length := by rw [← pm.length_eq, List.length_map]
    by_cases hlt : i < ds.length
    · refine .inr ⟨it.go i H' eG hlt, fun H2 => i + 1 ≤ ds.length ∧ ∃ L acc, St0 K Tb H0 O0 (D :: O) H2 (L2.wipe σ vs) (wipeR ρ vs) ∧ Ext H1 H2 ∧ H2 D = some (SetTO P w D L) ∧ (∀ q ∈ L, SqT K (hide (D :: O) H2) q.1 (q.2.map V.int)) ∧ (L.map (·.2)).Perm acc ∧ dcGo t ft fk (wipeR ρ vs) (ds.drop (i + 1)) acc = .ok ks,
        fun H2 q => ⟨ds.length - (i + 1), by omega, q.1, rfl, q.2⟩, fun x H2 y => ?_⟩
      obtain ⟨e2, d, hd, rx⟩ := it.yld i H' (D :: O) x H2 eG nO s1.al hlt y
      have hdr : ds.drop i = d :: ds.drop (i + 1) := by
        obtain ⟨hl, hd'⟩ := List.getElem?_eq_some_iff.mp hd
        rw [List.drop_eq_getElem_cons hl, hd']
      rw [hdr] at go
      unfold dcGo at go
      cases et : t.set d (wipeR ρ vs) with
      | none => rw [et] at go; cases go
      | some ρ1 =>
        rw [et] at go
        obtain ⟨b, eb, go⟩ := nx_ok go
        have s2 := s1.step e2
        refine ⟨H0, O0, D :: O, wipeR ρ vs, ρ1, d, s2, rx, et, fun σ' st' ag => ⟨(ag.wipe hv).trans wipe_wipe, H0, O0, D :: O, ρ1, st', ?_⟩⟩
        rw [eb]
        intro b' H3 e3 r3
        cases (show b' = b from r3)
        have s3 := st'.step e3
        cases b with
        | false =>
          exact ⟨hlt, L, acc, s2.step e3, (e1.trans e2).trans e3, (e2.trans e3).keep D _ hD (fun _ q => by cases q), fun x hx => (Sub.hide (e2.trans e3).keep).sqT (hk x hx), pm, go⟩
        | true =>
          obtain ⟨yd, ey1, go⟩ := nx_ok go
          refine ⟨H0, O0, D :: O, ρ1, s3, ?_⟩
          rw [ey1]
          intro y H4 e4 r4
          cases ek : asTu yd with
          | none => rw [ek] at go; cases go
          | some key =>
            rw [ek] at go
            obtain ⟨p, rfl, hp⟩ := asTu_rp r4 ek
            have e24 := (e2.trans e3).trans e4
            have hD4 := e24.keep D _ hD (fun _ q => by cases q)
            have s4 := (s2.step e3).step e4
            have hk4 : ∀ x ∈ L, SqT K (hide (D :: O) H4) x.1 (x.2.map V.int) := fun x hx => (Sub.hide e24.keep).sqT (hk x hx)
            refine ⟨L, p, key, rfl, hD4, fun x hx => Sub.unhide.sqT (hk4 x hx), by have := lim.1; omega, Sub.unhide.sqT hp, fun L' n1 n2 => ⟨hlt, L', if key ∈ acc then acc else acc ++ [key], s4.hidO List.mem_cons_self aD0 hD4 (plain_setT P w D _) (plain_setT P w D _) own setT_xd, (e1.trans e24).updN nD (fun c q z => (plain_setT P w D _).1 c q (Option.some.inj (hD4.symm.trans z))), upd_same, ?_, ?_, go⟩⟩
            · rw [hide_upd List.mem_cons_self]
              by_cases c : key ∈ L.map (·.2)
              · rw [n1 c]; exact hk4
              · intro x hx
                rcases List.mem_cons.mp ((n2 c).mem_iff.mp hx) with rfl | hx
                · exact hp
                · exact hk4 x hx
            · by_cases c : key ∈ L.map (·.2)
              · rw [n1 c, if_pos (pm.mem_iff.mp c)]; exact pm
              · rw [if_neg (fun z => c (pm.mem_iff.mpr z))]
                exact ((n2 c).map (fun x : Addr × List Int => x.2)).trans ((pm.cons key).trans (List.perm_append_singleton key acc).symm)
    · have ei : i = ds.length := by omega
      subst ei
      refine .inl ⟨it.stop H' eG, ?_⟩
      rw [List.drop_length] at go
      cases go
      refine fin D L H' _ rfl (e.trans e1) hD pm fun q hq => ⟨?_, ?_⟩
      · have := hk q hq
        exact (Sub.less fun b hb => List.mem_cons_of_mem _ hb).sqT this
      · exact of_decide_eq_true (List.all_eq_true.mp lim.2 q.2 (pm.mem_iff.mp (List.mem_map.mpr ⟨q, hq, rfl⟩)))
theorem St0.setNone {K : PySem.W.Frag} {H0 H : Hp} {O0 O : List Addr} {σ : L2.St} {ρ : Rho} (st : St0 K Tb H0 O0 O H σ ρ) (i : Nat) (v : Option V) : St0 K Tb H0 O0 O H (σ.set i v) (ρ.set i none) := by
  have g : ∀ (j : Nat) (s : Sl), (ρ.set i none)[j]? = some (some s) → ¬ i = j := fun j s h e => by
    subst e
    by_cases hl : i < ρ.length
    · rw [List.getElem?_set_self hl] at h; cases h
    · rw [List.getElem?_eq_none (by rw [List.length_set]; omega)] at h; cases h
  exact ⟨st.ext, st.sub, st.new, st.al, st.tab, st.pln, by rw [List.length_set, List.length_set]; exact st.len, fun j x h => by
    have e := g j x h
    rw [List.getElem?_set_ne e] at h ⊢
    exact st.slot j x h, fun j k p xs ys hx hy h1 h2 h3 h4 => by
    have e1 := g j xs h1
    have e2 := g k ys h2
    rw [List.getElem?_set_ne e1] at h1 h3
    rw [List.getElem?_set_ne e2] at h2 h4
    exact st.inj j k p xs ys hx hy h1 h2 h3 h4⟩
theorem scT_run {kx tg iter : Expr} {ifs : List Expr} {scope : Scope} {own : List (Str × Nat)} {wi : TI} {g : TG} {tt : TT} {tk : TE} {pos pos' : Pos} (hu : X.A.units + 64 < cLine) (P : KeyParts X kx tg iter ifs scope own wi g tt tk) {pins : List (Addr × Obj)} {s : Shared} {σ : L2.St} {H : Hp} {Q : VK} {use : Option (Value → Sem Unit)} {Qf : Value → Shared → Prop}
    (I : Inv X pins σ H s) (h : tScT X.K X.prog X.w wi g tt tk (own.map (·.2)) σ H Q)
    (hQ : ∀ D C s' m H', Inv X pins σ H' s' → Q (.ref D) H' → s'.heap.Ns C m → FpOk X pins H' C → compPost (model X.prog X.w) X.A X.xe use Qf (.ref D) C (.ok .next) s') :
    wpAny (model X.prog X.w) X.A (comprehension (.SetComp kx [⟨tg, iter, ifs, 0⟩] scope pos) scope X.env pos' (newSet (.type "set")) false (eval iter X.env) use) Qf X.xe s := by
  have cells : ∀ y ∈ scope.names, y.2 = .free → ∃ c, X.env.cells.lookup y.1 = some c := by
    intro y hy e
    cases P.blk.free y hy e with
    | inl z => exact I.ok.has _ (.inl z)
    | inr z => exact I.ok.has _ (.inr z)
  have locs : ∀ y ∈ scope.names, y.2 = .local → scope.names.lookup y.1 = some .local := fun y hy e => (P.blk.uniq y hy).trans (congrArg some e)
  refine wpAny_comprehension_free (use := use) rfl P.plain (closure_ok cells) P.blk.kind locs ?_
  refine thn (P.walk.run pins s σ H _ I h) ?_
  intro x s1 h1
  refine thn h1 ?_
  rintro _ s2 ⟨it, fp, tn, J, H2, rfl, I2, T, t2, f2, h2⟩
  refine PpSet.newSet_ok ?_
  obtain ⟨W, ⟨m0, w0⟩, turn⟩ := h2 s2.heap.objs.size (I2.hok.fresh (Nat.le_refl _))
  have fresh : (s2.heap.push { cls := .type "set", dict := none, data := .set #[] 0 (.fresh 0 0 (!X.w.params.followText "set-order")) }).get? s2.heap.objs.size = some { cls := .type "set", dict := none, data := .set #[] 0 (.fresh 0 0 (!X.w.params.followText "set-order")) } := Heap.get?_push_size _ rfl
  have I3 : Inv X pins σ (upd H2 s2.heap.objs.size (SetTO X.prog X.w s2.heap.objs.size [])) { s2 with heap := s2.heap.push { cls := .type "set", dict := none, data := .set #[] 0 (.fresh 0 0 (!X.w.params.followText "set-order")) } } :=
    I2.laid (t' := s2.toks) (fun b o e => Heap.get?_push_of_some _ e) (Nat.le_refl _) (setTO_new (setTR_fresh fresh).t0)
  have f3 : ∀ b ∈ fp, FpOk X pins (upd H2 s2.heap.objs.size (SetTO X.prog X.w s2.heap.objs.size [])) b ∧ b < (s2.heap.push { cls := .type "set", dict := none, data := .set #[] 0 (.fresh 0 0 (!X.w.params.followText "set-order")) }).objs.size := by
    intro b hb
    obtain ⟨o, hbo, -⟩ := T.obj _ _ t2 b hb
    have lt : b < s2.heap.objs.size := Heap.lt_size hbo
    refine ⟨⟨(upd_ne (Nat.ne_of_lt lt)).trans (f2 b hb).1, (f2 b hb).2⟩, ?_⟩
    rw [Heap.size_push]
    exact Nat.lt_succ_of_lt lt
  have t3 := T.keep _ _ (s2.heap.push { cls := .type "set", dict := none, data := .set #[] 0 (.fresh 0 0 (!X.w.params.followText "set-order")) }) t2 fun b _ o e => Heap.get?_push_of_some _ e
  refine newEnv_comp ?_
  have t4 := T.keep _ _ (pushCells ((s2.heap.push { cls := .type "set", dict := none, data := .set #[] 0 (.fresh 0 0 (!X.w.params.followText "set-order")) }).push { cls := .type "dict", data := .dict #[] }) scope.names) t3 fun b _ o e => pushCells_keeps _ _ _ _ (Heap.get?_push_of_some _ e)
  have loop := memLoop (σ := σ) (vs := own.map (·.2)) (pos := pos) (R := compPost (model X.prog X.w) X.A X.xe use Qf (.ref s2.heap.objs.size) (s2.heap.push { cls := .type "set", dict := none, data := .set #[] 0 (.fresh 0 0 (!X.w.params.followText "set-order")) }).objs.size) (iter := iter)
    hu P.calm T (P.tgt _ _ fp) (P.test _ _ fp) (P.key _ _ fp) turn
    (fun H5 s5 I5 q => by
      obtain ⟨I6, f6, m, hm⟩ := AtTurn.leave I3 (fun b hb => (f3 b hb).1) I5
      exact hQ _ _ s5 m H5 I6 q hm f6)
    w0 ⟨block_start I3 P.blk P.nd f3, t4, fun b hb => (f3 b hb).1.1⟩
  exact PpSet.codeAny_compStart_set loop (T.self X.A 0 _ _ _ t4 loop)
theorem ps_setScT {kx tg iter : Expr} {ifs : List Expr} {scope : Scope} {own : List (Str × Nat)} {wi : TI} {g : TG} {tt : TT} {tk : TE} {pos : Pos} {i : Nat} {y : Str} {py spos : Pos} (hu : X.A.units + 64 < cLine) (hc : X.calm = true) (hN : X.N.Nodup) (hy : X.N[i]? = some y) (hyl : X.env.scope.names.lookup y = some .local)
    (hsw : swapsWith (.SetComp kx [⟨tg, iter, ifs, 0⟩] scope pos) (some (.Name y py)) spos.line X.env = pure true) (hi : PI X tg iter wi) (ok : BlkOk X.N X.env.scope scope own)
    (hg : ∀ (s : Shared) (H : Hp) (C : Addr) (cl : List (Str × Addr)) (fp : List Addr), PG (X.blk s H scope (compEnvC scope cl C X.env) fp) tg g) (ht : ∀ (s : Shared) (H : Hp) (C : Addr) (cl : List (Str × Addr)) (fp : List Addr), PTs (X.blk s H scope (compEnvC scope cl C X.env) fp) ifs tt)
    (hk : ∀ (s : Shared) (H : Hp) (C : Addr) (cl : List (Str × Addr)) (fp : List Addr), PE (X.blk s H scope (compEnvC scope cl C X.env) fp) kx tk)
    (hs : ∀ x, foldedSetIterable iter X.env x = pure x := by intro _; rfl) :
    PS X (.Assign [.Name y py] (.SetComp kx [⟨tg, iter, ifs, 0⟩] scope pos) spos) (tAsg (tScT X.K X.prog X.w wi g tt tk (own.map (·.2))) (gName i)) := by
  constructor
  intro pins s σ H D I h
  rw [exec_Assign_Name_used _ _ _ _ hsw]
  refine wpAny_bind (wpAny_standAt (wpAny_bind (wpAny_bind ?_)))
  have P := KeyParts.of (Nat.lt_of_le_of_lt (Nat.le_add_right _ _) hu) hc hN hi ok hg ht hk hs
  refine thn (scT_run hu P (pos := pos) (pos' := firstIterPos [⟨tg, iter, ifs, 0⟩] pos) (use := some (assign (.Name y py) X.env)) (Q := fun x H1 => gName i x σ H1 D.nx) (Qf := fun _ s' => SP X pins D .next s') I h ?_) fun _ _ z => wpAny_pure (wpAny_pure z)
  intro L C s' m H' I' q hm f
  refine wpAny_assign_Name (store_ok2 (v := V.ref L) I' hN hy (.inl hyl) rfl ?_ (.inr hyl))
  rintro s2 I2 ⟨a, sb, ha⟩
  have ne : C ≠ a := by
    cases ha with
    | inl z => exact z ▸ f.2.1
    | inr z => exact Ne.symm (f.2.2.2.2.1 y a z)
  refine ⟨m, hm.sameBut sb ne, fun h3 sb3 => ⟨_, H', FpOk_drop f I2 ?_, q⟩⟩
  intro b o hb e
  rw [← e]
  exact sb3.2 b hb
/-- x = {..}; return (e, tuple(sorted(x))) -/
def gRetS2 (i : Nat) (f1 : Dn) (fs : Dn) : Sn := fun ρ => oR (fs ρ) ρ fun d => oR (f1 (ρ.set i none)) (ρ.set i none) fun e => match d with
  | .list ds => .rt (.tuple [e, .tuple ds])
  | _ => .bad
variable {kx tg iter e1 : Expr} {ifs : List Expr} {scope : Scope} {own : List (Str × Nat)} {pos pos2 p : Pos}
theorem fs_retS2 {k i : Nat} {y : Str} {x1} {py py2 ps pr pt pu pv pw : Pos} {f1 : Dn} {fi : DnL} {t : Tg} {ft : DnB} {fk : Dn} (hr : Room k X.A) (B : Bi X.mg) (hc : X.calm = true) (hN : X.N.Nodup) (hy : X.N[i]? = some y) (hyl : X.env.scope.names.lookup y = some .local) (hyv : Vis X.env.scope y)
    (hi : PI X tg iter (tI X.K Tb W fi)) (ok : BlkOk X.N X.env.scope scope own)
    (hg : ∀ (s : Shared) (H : Hp) (C : Addr) (cl : List (Str × Addr)) (fp : List Addr), PG (X.blk s H scope (compEnvC scope cl C X.env) fp) tg (tG X.K Tb t))
    (ht : ∀ (s : Shared) (H : Hp) (C : Addr) (cl : List (Str × Addr)) (fp : List Addr), PTs (X.blk s H scope (compEnvC scope cl C X.env) fp) ifs (tDT X.K Tb W0 ft))
    (hk : ∀ (s : Shared) (H : Hp) (C : Addr) (cl : List (Str × Addr)) (fp : List Addr), PE (X.blk s H scope (compEnvC scope cl C X.env) fp) kx (tD X.K Tb W0 fk))
    (he : PE X e1 (tD X.K Tb W f1)) (hg1 : Gl X "sorted" := by rfl) (hg2 : Gl X "tuple" := by rfl) (hv : ∀ i ∈ t.ixs, i ∈ own.map (·.2) := by decide) (hs : ∀ x, foldedSetIterable iter X.env x = pure x := by intro _; rfl)
    (hsw : swapsWith (.SetComp kx [⟨tg, iter, ifs, 0⟩] scope pos2) (some (.Name y py)) ps.line X.env = pure true := by rfl)
    (n1 : starEach [.Name y py2] X.env = (false, eval (.Name y py2) X.env) :: starEach [] X.env := by rfl)
    (n2 : starEach [.Call (.Name "sorted" pr) [.Name y py2] [] pt] X.env = (false, eval (.Call (.Name "sorted" pr) [.Name y py2] [] pt) X.env) :: starEach [] X.env := by rfl)
    (n3 : starEach [.Call (.Name "tuple" pu) [.Call (.Name "sorted" pr) [.Name y py2] [] pt] [] pv] X.env = (false, eval (.Call (.Name "tuple" pu) [.Call (.Name "sorted" pr) [.Name y py2] [] pt] [] pv) X.env) :: starEach [] X.env := by rfl)
    (n4 : starEach [e1, .Call (.Name "tuple" pu) [.Call (.Name "sorted" pr) [.Name y py2] [] pt] [] pv] X.env = (false, eval e1 X.env) :: starEach [.Call (.Name "tuple" pu) [.Call (.Name "sorted" pr) [.Name y py2] [] pt] [] pv] X.env := by rfl)
    (hdb : (y == ("__debug__" : Str)) = false := by decide) (hcd : (y == ("__classdict__" : Str)) = false := by decide) :
    PSs X [.Assign [.Name y py] (.SetComp kx [⟨tg, iter, ifs, 0⟩] scope pos2) ps, .Return (some (.Tuple [e1, .Call (.Name "tuple" pu) [.Call (.Name "sorted" pr) [.Name y py2] [] pt] [] pv] x1 pw)) pos] (tS X.K Tb W (gRetS2 i f1 (dSortSc fi t ft fk (own.map (·.2))))) := by
  have body := pss_cons (ps_setScT (pos := pos2) (spos := ps) (py := py) hr.u64 hc hN hy hyl hsw hi ok hg ht hk hs) (pss_one (ps_ret (pos := pos) (pe_tup (x1 := x1) (pos := pw) (pa_cons he (pa_cons (pe_callTy call_tuple_of hg2 B.tuple boot_tuple (pa_cons (pe_callB (cr_sortScT hc hr.u64) hg1 B.sorted boot_sorted (pa_cons (pe_var hy hyv hdb hcd) pa_nil n1) (by decide) (by decide) n1 (by rfl)) pa_nil n2) (by decide) (by decide) n2 (by rfl)) pa_nil n3) n4))))
  refine ⟨fun pins s σ H D I h => body.run pins s σ H D I ?_⟩
  obtain ⟨H0, O0, O, ρ, st, h⟩ := h
  have hP : Post X.K O (RlD X.K O) (fun c d H => W c d σ H) H (dSortSc fi t ft fk (own.map (·.2)) ρ) (fun _ _ => True) := oR_post st h fun _ _ _ _ _ _ => trivial
  unfold tSeq tAsg gName
  dsimp only
  refine sc_walkE hv st hP fun a L H1 ks ed ex hH pm hL => ?_
  unfold gRetS2 at h
  rw [ed, oR_ok] at h
  have st1 := (st.step ex).setNone i (some (.ref a))
  have hi1 : i < σ.length := by rw [I.len]; exact (List.getElem?_eq_some_iff.mp hy).1
  refine ⟨H0, O0, O, ρ.set i none, st1, oR_post st1 h fun d v H2 e2 r2 k2 => ?_⟩
  have st2 := st1.step e2
  refine ⟨.ref a, List.getElem?_set_self hi1, ?_⟩
  have hH2 := e2.keep a _ hH (fun _ q => by cases q)
  refine ⟨hide O H2, a, L, rfl, Sub.unhide, hH2, fun q hq => ⟨(Sub.hide e2.keep).sqT (hL q hq).1, (hL q hq).2⟩, fun q L1 ys pL hq hl ry => ?_⟩
  have nq : q ∉ O := st2.fresh hq
  refine ⟨q, ys, rfl, .inl ⟨.of upd_same, fun l hl2 => ?_⟩⟩
  refine ⟨by show 2 ≤ sizeLine; rw [sizeLine_eq]; omega, fun z hz => ?_⟩
  have e1' : L1.map tuD = (L1.map (·.2)).map fun k => PyData.tuple (k.map .int) := by rw [List.map_map]; rfl
  rw [e1', sortD_perm ((pL.map (·.2)).trans pm)] at ry
  have x1 : Ext H2 (upd H2 q (.lst ys)) := Ext.new hq
  have x2 := x1.trans (Ext.new (o := .tup ys) hl2)
  have x3 := x2.trans (Ext.new (o := .tup [v, .ref l]) hz)
  have nl : l ∉ O := fun m => (st2.step x1).al l m hl2
  have nz : z ∉ O := fun m => (st2.step x2).al z m hz
  have lz : l ≠ z := fun c => by
    rw [c, upd_same] at hz
    cases hz
  refine k2 (.ref z) _ (st2.ext.trans x3) (Rp.mono (Sub.less st2.sub) (.tup (xs := [v, .ref l]) (.of ?_) (by show 2 ≤ sizeLine; rw [sizeLine_eq]; omega) (.cons (Rp.mono (Sub.hide x3.keep) r2) (.cons (.tup (xs := ys) (.of ?_) ?_ (ry.mono (Sub.hide x3.keep))) .nil))))
  · rw [hide_out nz, upd_same]
  · rw [hide_out nl, upd_ne lz, upd_same]
  · rw [← ry.length, sizeLine_eq]; omega
end
end PD
set_option Elab.async false
set_option linter.all false
set_option maxRecDepth 100000
set_option maxHeartbeats 1000000
namespace PD
open PySem PySem.Spec PyProof.Rows L2
theorem setR_count {w : World} {h : Heap} {a : Addr} {ns : List Int} {c : Nat} (R : SetR w h a (fun j => decide (j ∈ ns)) c) : c = (uniq ns).length := by
  obtain ⟨o, es, ep, t, ho, hex, hd, hg, nd, mem, hb, hf, hn, _⟩ := R
  have p : (es.toList.map keyOf).Perm (uniq ns) := (List.perm_ext_iff_of_nodup nd ((uniq_asc ns).imp fun {x y} h e => by omega)).mpr fun z => by
    rw [← mem, mem_uniq, decide_eq_true_eq]
  rw [← hn, ← p.length_eq, List.length_map, Array.length_toList]
def bSortSetW : PyData → R PyData
  | .tuple xs => ofO (asInts xs) fun ns => if (uniq ns).length < 60 ∧ ns.length < 4000 then .ok (.list ((uniq ns).map .int)) else .bad
  | .list xs => ofO (asInts xs) fun ns => if (uniq ns).length < 60 ∧ ns.length < 4000 then .ok (.list ((uniq ns).map .int)) else .bad
  | _ => .bad
section
variable {X : Cx}
def rSetTX (K : PySem.W.Frag) (w : World) : List V → Hp → VK → Prop := fun vs H Q => ∃ (a : Addr) (ns : List Int), vs = [V.ref a] ∧ (SqT K H a (ns.map V.int) ∨ SqL K H a (ns.map V.int)) ∧ ns.length + 1 < scanBound ∧ ∀ (p : Addr), H p = none → Q (.ref p) (upd H p (SetO w p (fun j => decide (j ∈ ns)) (uniq ns).length))
theorem cr_setTX (hc : X.calm = true) : CallR X (.type "set") (rSetTX X.K X.w) := by
  intro pins s σ H vs us Q I r h
  obtain ⟨a, ns, rfl, hs, hb, q⟩ := h
  rw [Vals.ref1 r]
  have fin : ∀ (h' : Heap) (tk c : Nat), SetR X.w h' s.heap.objs.size (fun j => decide (j ∈ ns)) c → c ≤ ns.length → (∀ b o, s.heap.get? b = some o → h'.get? b = some o) → EP X pins σ Q (.ref s.heap.objs.size) { s with heap := h', toks := tk } := fun h' tk c R hc2 keep => by
    have e := setR_count R
    subst e
    exact ⟨.ref _, upd H s.heap.objs.size (SetO X.w s.heap.objs.size (fun j => decide (j ∈ ns)) (uniq ns).length), I.laid (t' := tk) keep (Nat.le_refl _) (setO_new R), rfl, q _ (I.hok.fresh (Nat.le_refl _))⟩
  rcases hs with hs | hs
  · obtain ⟨its, rv, hl, _⟩ := I.tuple hs
    exact call_set_tupI ns (I.ok.hd hc) hl rv.ints hb fin
  · obtain ⟨its, rv, hl, _⟩ := I.list hs
    exact set_of_list ns (I.ok.hd hc) hl.isList (by simpa using rv.ints) hb fin
end
section
variable {X : Cx} {Tb : List Addr} {W : WX} {e : Expr} {f : Dn} {p p2 pos pos2 : Pos}
theorem fd_sortSetW (B : Bi X.mg) (he : PE X e (tD X.K Tb W f)) (hc : X.calm = true := by rfl) (hg1 : Gl X "sorted" := by rfl) (hg2 : Gl X "set" := by rfl)
    (n1 : starEach [e] X.env = (false, eval e X.env) :: starEach [] X.env := by rfl) (n2 : starEach [.Call (.Name "set" p2) [e] [] pos2] X.env = (false, eval (.Call (.Name "set" p2) [e] [] pos2) X.env) :: starEach [] X.env := by rfl) :
    PE X (.Call (.Name "sorted" p) [.Call (.Name "set" p2) [e] [] pos2] [] pos) (tD X.K Tb W (dOne bSortSetW f)) :=
  (pe_callB (cr_sortedSet hc) hg1 B.sorted boot_sorted (pa_cons (pe_callTy (cr_setTX hc) hg2 B.set boot_set2 (pa_cons he pa_nil n1) (by decide) (by decide) n1 (by rfl)) pa_nil n2) (by decide) (by decide) n2 (by rfl)).by fun σ H Q ⟨H0, O0, O, ρ, st, h⟩ => ⟨H0, O0, O, ρ, st, by
    refine Post.then h fun d v H1 ex rv k => ?_
    unfold bSortSetW at k
    split at k
    · rename_i xs
      cases en : asInts xs with
      | none => rw [en] at k; exact k.elim
      | some ns =>
        rw [en] at k
        unfold ofO at k
        dsimp only at k
        by_cases hz : (uniq ns).length < 60 ∧ ns.length < 4000
        · rw [if_pos hz] at k
          cases rv with
          | tup h1 z1 a1 =>
            have ev := ints_rp a1 en
            subst ev
            refine ⟨_, ns, rfl, .inl (Sub.unhide.sqT h1), by show ns.length + 1 < 4096; omega, fun q hq => ?_⟩
            refine ⟨q, _, _, rfl, upd_same, by omega, fun ns' q2 asc mem len hq2 => ?_⟩
            have e1 : ns' = uniq ns := asc_uniq asc (uniq_asc ns) fun z => by rw [mem_uniq, mem]; simp
            have ne : q2 ≠ q := fun z => by rw [z, upd_same] at hq2; cases hq2
            have hq3 : H1 q2 = none := by rw [upd_ne ne] at hq2; exact hq2
            have al := (st.step ex).al
            subst e1
            refine k _ _ ((Ext.new hq).trans (Ext.new hq2)) (.lst (xs := (uniq ns).map V.int) (.of ?_) (by rw [List.length_map, sizeLine_eq]; omega) (rp_ints _))
            rw [hide_out (fun m => al q2 m hq3)]
            exact upd_same
        · rw [if_neg hz] at k
          exact k.elim
    · rename_i xs
      cases en : asInts xs with
      | none => rw [en] at k; exact k.elim
      | some ns =>
        rw [en] at k
        unfold ofO at k
        dsimp only at k
        by_cases hz : (uniq ns).length < 60 ∧ ns.length < 4000
        · rw [if_pos hz] at k
          cases rv with
          | lst h1 z1 a1 =>
            have ev := ints_rp a1 en
            subst ev
            refine ⟨_, ns, rfl, .inr (Sub.unhide.sqL h1), by show ns.length + 1 < 4096; omega, fun q hq => ?_⟩
            refine ⟨q, _, _, rfl, upd_same, by omega, fun ns' q2 asc mem len hq2 => ?_⟩
            have e1 : ns' = uniq ns := asc_uniq asc (uniq_asc ns) fun z => by rw [mem_uniq, mem]; simp
            have ne : q2 ≠ q := fun z => by rw [z, upd_same] at hq2; cases hq2
            have hq3 : H1 q2 = none := by rw [upd_ne ne] at hq2; exact hq2
            have al := (st.step ex).al
            subst e1
            refine k _ _ ((Ext.new hq).trans (Ext.new hq2)) (.lst (xs := (uniq ns).map V.int) (.of ?_) (by rw [List.length_map, sizeLine_eq]; omega) (rp_ints _))
            rw [hide_out (fun m => al q2 m hq3)]
            exact upd_same
        · rw [if_neg hz] at k
          exact k.elim
    · exact k.elim⟩
end
end PD
set_option Elab.async false
set_option linter.all false
set_option maxRecDepth 100000
set_option maxHeartbeats 1000000
namespace PD
open PySem PySem.Spec PyProof.Rows L2
end PD
set_option Elab.async false
set_option linter.all false
set_option maxRecDepth 100000
set_option maxHeartbeats 1000000
namespace PD
open PySem PySem.Spec PyProof.Rows L2
end PD
set_option Elab.async false
set_option linter.all false
set_option maxRecDepth 100000
set_option maxHeartbeats 2000000
namespace PDC
open PySem PySem.Spec
open Sem (wp)
end PDC
set_option Elab.async false
set_option linter.all false
set_option maxRecDepth 100000
set_option maxHeartbeats 2000000
namespace PDC
open PySem PySem.Spec
open Sem (wp)
abbrev TupO (vs : List Value) : Obj := { cls := .type "tuple", dict := none, data := .seq vs.toArray, slots := #[] }
end PDC
set_option Elab.async false
set_option linter.all false
set_option maxRecDepth 100000
set_option maxHeartbeats 2000000
namespace PDC
open PySem PySem.Spec
open Sem (wp)
def pickV (vs : List Value) (js : List Nat) : List Value := js.map fun j => vs.toArray.getD j .none
end PDC
set_option Elab.async false
set_option linter.all false
set_option maxRecDepth 100000
set_option maxHeartbeats 2000000
namespace PDC
open PySem PySem.Spec
open Sem (wp)
end PDC
set_option Elab.async false
set_option linter.all false
set_option maxRecDepth 100000
set_option maxHeartbeats 2000000
namespace PDC
open PySem PySem.Spec
open Sem (wp)
inductive Made (h : Heap) (vs : List Value) : List Addr → List (List Nat) → Prop
  | nil : Made h vs [] []
  | cons {a : Addr} {as : List Addr} {j : List Nat} {js : List (List Nat)} : h.get? a = some (TupO (pickV vs j)) → Made h vs as js → Made h vs (a :: as) (j :: js)
theorem Made.mono {h h' : Heap} {vs : List Value} {as : List Addr} {js : List (List Nat)} (m : Made h vs as js) (k : ∀ a ∈ as, ∀ o, h.get? a = some o → h'.get? a = some o) : Made h' vs as js := by
  induction m with
  | nil => exact .nil
  | cons e m ih => exact .cons (k _ List.mem_cons_self _ e) (ih fun a ha => k a (List.mem_cons_of_mem _ ha))
end PDC
set_option Elab.async false
set_option linter.all false
set_option maxRecDepth 100000
set_option maxHeartbeats 2000000
namespace PDC
open PySem PySem.Spec
open Sem (wp)
end PDC
set_option Elab.async false
set_option linter.all false
set_option maxRecDepth 100000
set_option maxHeartbeats 2000000
namespace PD
open PySem PySem.Spec PyProof.Rows L2 PDC
end PD
set_option Elab.async false
set_option linter.all false
set_option maxRecDepth 100000
set_option maxHeartbeats 1000000
namespace PD
open PySem PySem.Spec PyProof.Rows L2 PDC
end PD
set_option Elab.async false
set_option linter.all false
set_option maxRecDepth 100000
set_option maxHeartbeats 1000000
namespace PD
open PySem PySem.Spec PyProof.Rows L2 PDC
end PD
set_option Elab.async false
set_option linter.all false
set_option maxRecDepth 100000
set_option maxHeartbeats 1000000
namespace PD
open PySem PySem.Spec PyProof.Rows L2
end PD
set_option Elab.async false
set_option linter.all false
set_option maxRecDepth 100000
set_option maxHeartbeats 1000000
namespace PD
open PySem PySem.Spec PyProof.Rows L2
end PD
set_option Elab.async false
set_option linter.all false
set_option maxRecDepth 100000
set_option maxHeartbeats 1000000
namespace PD
open PySem PySem.Spec PyProof.Rows L2
end PD
set_option Elab.async false
set_option linter.all false
set_option maxRecDepth 100000
set_option maxHeartbeats 1000000
namespace PD
open PySem PySem.Spec PyProof.Rows L2
end PD
set_option Elab.async false
set_option linter.all false
set_option maxRecDepth 100000
set_option maxHeartbeats 1000000
namespace PD
open PySem PySem.Spec PyProof.Rows L2
end PD
set_option Elab.async false
set_option linter.all false
set_option maxRecDepth 100000
set_option maxHeartbeats 1000000
namespace PD
open PySem PySem.Spec PyProof.Rows L2 HotX L2H
end PD
set_option Elab.async false
set_option linter.all false
set_option maxRecDepth 100000
set_option maxHeartbeats 1000000
namespace PD
open PySem PySem.Spec PyProof.Rows L2
end PD
set_option Elab.async false
set_option linter.all false
set_option maxRecDepth 100000
set_option maxHeartbeats 1000000
namespace PD
open PySem PySem.Spec PySem.W PySem.Calls PyProof.Rows
end PD
set_option Elab.async false
set_option linter.all false
set_option maxRecDepth 100000
set_option maxHeartbeats 1000000
namespace PD
open PySem PySem.Spec PyProof.Rows L2
end PD
set_option Elab.async false
set_option linter.all false
set_option maxRecDepth 100000
set_option maxHeartbeats 1000000
namespace PD
open PySem PySem.Spec PyProof.Rows L2
end PD
set_option Elab.async false
set_option linter.all false
set_option maxRecDepth 100000
set_option maxHeartbeats 1000000
namespace PD
open PySem PySem.Spec PyProof.Rows L2
end PD
set_option Elab.async false
set_option linter.all false
set_option maxRecDepth 100000
set_option maxHeartbeats 1000000
namespace PD
open PySem PySem.Spec PyProof.Rows L2
/-- the value at a key -/
def getK (kvs : List (Int × PyData)) (k : Int) : Option PyData := (kvs.find? fun x => decide (x.1 = k)).map (·.2)
/-- a store: in its place, or at the end -/
def putKD (kvs : List (Int × PyData)) (k : Int) (v : PyData) : List (Int × PyData) := if (kvs.any fun x => decide (x.1 = k)) = true then kvs.map (fun x => if x.1 = k then (x.1, v) else x) else kvs ++ [(k, v)]
/-- a dict reads as data -/
def DkR (K : PySem.W.Frag) (G : Hp) (vs : List (Key × V)) (ds : List (Int × PyData)) : Prop := vs.map (·.1) = ds.map (fun x => Sum.inl x.1) ∧ RpAll K G (vs.map (·.2)) (ds.map (·.2))
section
variable {K : PySem.W.Frag} {G G' : Hp}
theorem DkR.nil : DkR K G [] [] := ⟨rfl, .nil⟩
theorem DkR.cons {a : Int} {v : V} {d : PyData} {vs : List (Key × V)} {ds : List (Int × PyData)} (r : Rp K G v d) (h : DkR K G vs ds) : DkR K G ((Sum.inl a, v) :: vs) ((a, d) :: ds) := ⟨by rw [List.map_cons, List.map_cons, h.1], .cons r h.2⟩
theorem DkR.inv {p : Key × V} {q : Int × PyData} {vs : List (Key × V)} {ds : List (Int × PyData)} (h : DkR K G (p :: vs) (q :: ds)) : p.1 = Sum.inl q.1 ∧ Rp K G p.2 q.2 ∧ DkR K G vs ds := by
  obtain ⟨h1, h2⟩ := h
  rw [List.map_cons, List.map_cons] at h1 h2
  injection h1 with h1 h3
  cases h2 with
  | cons a b => exact ⟨h1, a, h3, b⟩
theorem DkR.mono (s : Sub G G') {vs : List (Key × V)} {ds : List (Int × PyData)} (h : DkR K G vs ds) : DkR K G' vs ds := ⟨h.1, h.2.mono s⟩
theorem DkR.len {vs : List (Key × V)} {ds : List (Int × PyData)} (h : DkR K G vs ds) : vs.length = ds.length := by
  have := congrArg List.length h.1
  rwa [List.length_map, List.length_map] at this
theorem inl_iff {a k : Int} : ((Sum.inl a : Key) = Sum.inl k) ↔ a = k := ⟨fun z => by injection z, fun z => by rw [z]⟩
theorem DkR.any (k : Int) : ∀ {vs : List (Key × V)} {ds : List (Int × PyData)}, DkR K G vs ds → (vs.any fun x => decide (x.1 = Sum.inl k)) = ds.any fun x => decide (x.1 = k)
  | [], [], _ => rfl
  | [], _ :: _, h => by cases h.1
  | _ :: _, [], h => by cases h.1
  | p :: vs, q :: ds, h => by
    obtain ⟨h1, _, h3⟩ := h.inv
    rw [List.any_cons, List.any_cons, h3.any k, h1]
    congr 1
    exact decide_eq_decide.mpr inl_iff
theorem DkR.repl (k : Int) {v : V} {d : PyData} (r : Rp K G v d) : ∀ {vs : List (Key × V)} {ds : List (Int × PyData)}, DkR K G vs ds → DkR K G (vs.map fun x => if x.1 = Sum.inl k then (x.1, v) else x) (ds.map fun x => if x.1 = k then (x.1, d) else x)
  | [], [], _ => .nil
  | [], _ :: _, h => by cases h.1
  | _ :: _, [], h => by cases h.1
  | p :: vs, q :: ds, h => by
    obtain ⟨h1, h2, h3⟩ := h.inv
    obtain ⟨a, b⟩ := p
    obtain ⟨c, e⟩ := q
    have h1 : a = Sum.inl c := h1
    subst h1
    rw [List.map_cons, List.map_cons]
    by_cases hc : c = k
    · rw [if_pos (inl_iff.mpr hc), if_pos hc]
      exact .cons r (h3.repl k r)
    · rw [if_neg (fun z => hc (inl_iff.mp z)), if_neg hc]
      exact .cons h2 (h3.repl k r)
theorem DkR.snoc {k : Int} {v : V} {d : PyData} (r : Rp K G v d) : ∀ {vs : List (Key × V)} {ds : List (Int × PyData)}, DkR K G vs ds → DkR K G (vs ++ [(Sum.inl k, v)]) (ds ++ [(k, d)])
  | [], [], _ => .cons r .nil
  | [], _ :: _, h => by cases h.1
  | _ :: _, [], h => by cases h.1
  | p :: vs, q :: ds, h => by
    obtain ⟨h1, h2, h3⟩ := h.inv
    obtain ⟨a, b⟩ := p
    obtain ⟨c, e⟩ := q
    have h1 : a = Sum.inl c := h1
    subst h1
    exact .cons h2 (h3.snoc r)
theorem DkR.put {k : Int} {v : V} {d : PyData} (r : Rp K G v d) {vs : List (Key × V)} {ds : List (Int × PyData)} (h : DkR K G vs ds) : DkR K G (putK vs (Sum.inl k) v) (putKD ds k d) := by
  unfold putK putKD
  rw [h.any k]
  split
  · exact h.repl k r
  · exact h.snoc r
theorem DkR.val {k : Int} {d : PyData} : ∀ {vs : List (Key × V)} {ds : List (Int × PyData)}, DkR K G vs ds → getK ds k = some d → ∃ v, valV vs (Sum.inl k) = some v ∧ Rp K G v d
  | [], [], _, e => by cases e
  | [], _ :: _, h, _ => by cases h.1
  | _ :: _, [], h, _ => by cases h.1
  | p :: vs, q :: ds, h, e => by
    obtain ⟨h1, h2, h3⟩ := h.inv
    unfold getK at e
    rw [List.find?_cons] at e
    by_cases c : q.1 = k
    · rw [decide_eq_true c] at e
      cases e
      exact ⟨p.2, valV_pos (by rw [h1, c]), h2⟩
    · rw [decide_eq_false c] at e
      obtain ⟨v, e1, e2⟩ := h3.val (k := k) (d := d) e
      exact ⟨v, by rw [valV_neg (fun z => c (inl_iff.mp (h1.symm.trans z)))]; exact e1, e2⟩
theorem DkR.none {k : Int} : ∀ {vs : List (Key × V)} {ds : List (Int × PyData)}, DkR K G vs ds → getK ds k = none → valV vs (Sum.inl k) = none
  | [], [], _, e => rfl
  | [], _ :: _, h, _ => by cases h.1
  | _ :: _, [], h, _ => by cases h.1
  | p :: vs, q :: ds, h, e => by
    obtain ⟨h1, h2, h3⟩ := h.inv
    unfold getK at e
    rw [List.find?_cons] at e
    by_cases c : q.1 = k
    · rw [decide_eq_true c] at e
      cases e
    · rw [decide_eq_false c] at e
      rw [valV_neg (fun z => c (inl_iff.mp (h1.symm.trans z)))]
      exact h3.none e
end
theorem plain_dk (kvs : List (Key × V)) : Plain (.dK kvs) := ⟨fun _ _ h => (by unfold LamX.CodeO at h; cases h), fun _ h => (by cases h)⟩
end PD
set_option Elab.async false
set_option linter.all false
set_option maxRecDepth 100000
set_option maxHeartbeats 1000000
namespace PD
open PySem PySem.Spec PyProof.Rows L2
def asKv : List (PyData × PyData) → Option (List (Int × PyData))
  | [] => some []
  | (.int k, v) :: l => match asKv l with
    | some r => some ((k, v) :: r)
    | none => none
  | _ => none
def asDk : PyData → Option (List (Int × PyData))
  | .dict ((.bool true, .none) :: l) => asKv l
  | _ => none
theorem asKv_map : ∀ ks : List (Int × PyData), asKv (ks.map fun x => (PyData.int x.1, x.2)) = some ks
  | [] => rfl
  | x :: ks => by rw [List.map_cons, asKv, asKv_map ks]
@[simp] theorem asDk_dkD (ks : List (Int × PyData)) : asDk (dkD ks) = some ks := asKv_map ks
section
variable {K : PySem.W.Frag} {G H : Hp} {O : List Addr}
theorem asDk_rp {v : V} {d : PyData} {ks : List (Int × PyData)} (r : Rp K G v d) (h : asDk d = some ks) : ∃ a o kvs, v = .ref a ∧ G a = some (.frz o (.dK kvs)) ∧ DkR K G kvs ks := by
  cases r with
  | non => cases h
  | bl b => cases h
  | int i => cases h
  | str x => cases h
  | lst _ _ _ => cases h
  | tup _ _ _ => cases h
  | @dct a ep xs h1 h2 =>
    cases xs with
    | nil => cases h
    | cons x xs => cases h
  | ins _ _ _ => cases h
  | dk h1 h2 h3 =>
    rw [asDk_dkD] at h
    cases h
    exact ⟨_, _, _, rfl, h1, h2, h3⟩
theorem dk_get {a : Addr} {o : Obj} {kvs : List (Key × V)} {k : Int} (h : hide O H a = some (.frz o (.dK kvs))) : DGet H a (.int k) (valV kvs (.inl k)) := .inl ⟨kvs, .inl k, .inr ⟨o, (hide_some h).2⟩, rfl, rfl⟩
theorem DkR.some {vs : List (Key × V)} {ds : List (Int × PyData)} (k : Int) (h : DkR K G vs ds) : (valV vs (.inl k)).isSome = (getK ds k).isSome := by
  cases hg : getK ds k with
  | none => rw [h.none hg]; rfl
  | some d => obtain ⟨w, e, _⟩ := h.val hg; rw [e]; rfl
end
/-- d[k] -/
def oDix (d e : PyData) : R PyData := match asDk d, e with
  | some ks, .int k => (match getK ks k with | some v => .ok v | none => .bad)
  | _, _ => .bad
/-- k in d -/
def oInK (e d : PyData) : R PyData := match asDk d, e with
  | some ks, .int k => .ok (.bool (getK ks k).isSome)
  | _, _ => .bad
section
variable {X : Cx} {Tb : List Addr} {W : WX} {a b : Expr} {f g : Dn} {pos : Pos} {k : Nat} {σ : L2.St} {H : Hp} {Q : VK}
theorem e_dix (hr : Room k X.A) (ha : PE X a (tD X.K Tb W f)) (hb : PE X b (tD X.K Tb W g)) (hs : NoSl b := by intro _ _; rfl) : PE X (.Subscript a b pos) (tD X.K Tb W (dTwo oDix f g)) :=
  (pe_dget (show X.A.units + 1 < cLine by have := hr.u65; omega) ha hb hs).by fun σ H Q ⟨H0, O0, O, ρ, st, h⟩ => ⟨H0, O0, O, ρ, st, Post.then h fun d v H1 e1 r1 k1 => ⟨H0, O0, O, ρ, st.step e1, Post.then k1 fun y u H2 e2 r2 k2 => by
    unfold oDix at k2
    split at k2
    · rename_i ks kk hk
      obtain ⟨a, o, kvs, rfl, hG, rel⟩ := asDk_rp (Rp.mono (Sub.hide e2.keep) r1) hk
      cases r2
      split at k2
      · rename_i w hg
        obtain ⟨u, e3, r3⟩ := rel.val hg
        exact ⟨a, u, rfl, by rw [← e3]; exact dk_get hG, k2 u H2 (Ext.refl _) r3⟩
      · exact k2.elim
    · exact k2.elim⟩⟩
theorem inK_read {K : PySem.W.Frag} (h : tD K Tb W (dTwo oInK f g) σ H Q) : tDIn (tD K Tb W f) (tD K Tb W g) σ H Q := by
  obtain ⟨H0, O0, O, ρ, st, h⟩ := h
  refine ⟨H0, O0, O, ρ, st, Post.then h fun y u H1 e1 r1 k1 => ⟨H0, O0, O, ρ, st.step e1, Post.then k1 fun d v H2 e2 r2 k2 => ?_⟩⟩
  unfold oInK at k2
  split at k2
  · rename_i ks kk hk
    obtain ⟨a, o, kvs, rfl, hG, rel⟩ := asDk_rp r2 hk
    cases r1
    exact ⟨a, _, rfl, dk_get hG, by rw [rel.some]; exact k2 _ H2 (Ext.refl _) (.bl _)⟩
  · exact k2.elim
theorem t_inK (hr : Room k X.A) (ha : PE X a (tD X.K Tb W f)) (hb : PE X b (tD X.K Tb W g)) (hm : behindInMarks .In b = false := by rfl) : PT X (.Compare a [.In] [b] pos) (tDT X.K Tb W (dAsB (dTwo oInK f g))) :=
  (pt_cmp (pc_din (show X.A.units + 1 < cLine by have := hr.u65; omega) ha hb) hm).by fun σ H Q ⟨H0, O0, O, ρ, st, h⟩ => inK_read (W := W) ⟨H0, O0, O, ρ, st, Post.asB h⟩
end
section
variable {X : Cx}
theorem pe_seal {e : Expr} {t : TE} (h : PE X e t) : PE X e (fun σ H Q => t σ H fun v H' => ∃ p kvs, v = .ref p ∧ H' p = some (.dK kvs) ∧ ∀ od, Q v (upd H' p (.frz od (.dK kvs)))) :=
  ⟨fun pins s σ H Q I q => thn (h.run pins s σ H _ I q) fun u s1 ⟨v, H', I', r, p, kvs, e, hp, k⟩ => by
    obtain ⟨od, I1⟩ := I'.lock hp trivial
    exact ⟨v, _, I1, r, k od⟩⟩
end
end PD
set_option Elab.async false
set_option linter.all false
set_option maxRecDepth 100000
set_option maxHeartbeats 1000000
namespace PD
open PySem PySem.Spec PyProof.Rows L2
def dkGo (t : Tg) (ft : DnB) (fk fv : Dn) (ρ : Rho) : List PyData → List (Int × PyData) → R (List (Int × PyData))
  | [], acc => .ok acc
  | d :: ds, acc => match t.set d ρ with
    | some ρ1 => nx (ft ρ1) fun b => if b = true then nx (fk ρ1) fun y => nx (fv ρ1) fun z => (match y with
        | .int k => dkGo t ft fk fv ρ ds (putKD acc k z)
        | _ => .bad) else dkGo t ft fk fv ρ ds acc
    | none => .bad
def dDcK (fi : DnL) (t : Tg) (ft : DnB) (fk fv : Dn) (vs : List Nat) : Dn := fun ρ => fi ρ >>= fun ds => nx (dkGo t ft fk fv (wipeR ρ vs) ds []) fun ks => .ok (dkD ks)
theorem putKD_len (kvs : List (Int × PyData)) (k : Int) (v : PyData) : (putKD kvs k v).length ≤ kvs.length + 1 := by
  unfold putKD
  split
  · rw [List.length_map]; omega
  · rw [List.length_append]; exact Nat.le_refl _
section
variable {X : Cx} {Tb : List Addr} {W : WX}
theorem dk_walk {K : PySem.W.Frag} {t : Tg} {ft : DnB} {fk fv : Dn} {fi : DnL} {vs : List Nat} {σ : L2.St} {H : Hp} {Q : VK} (hv : ∀ i ∈ t.ixs, i ∈ vs) (h : tD K Tb W (dDcK fi t ft fk fv vs) σ H Q) :
    tDc (tI K Tb W fi) (tG K Tb t) (tDT K Tb W0 ft) (tD K Tb W0 fk) (tD K Tb W0 fv) vs σ H (fun v H' => ∃ p kvs, v = .ref p ∧ H' p = some (.dK kvs) ∧ ∀ od, Q v (upd H' p (.frz od (.dK kvs)))) := by
  obtain ⟨H0, O0, O, ρ, st, h⟩ := h
  refine ⟨H0, O0, O, ρ, st, Post.then h fun ds J H1 e it k => ?_⟩
  cases q : dkGo t ft fk fv (wipeR ρ vs) ds [] with
  | exc x => rw [q] at k; exact k.elim
  | bad => rw [q] at k; exact k.elim
  | ok ks =>
    rw [q] at k
    have st1 := st.step e
    intro D nD
    have aD : D ∉ O := st1.fresh nD
    have stw := (st1.wiped vs).more (o := .dK []) nD (plain_dk [])
    have aD0 : D ∉ O0 := fun m => aD (st1.sub D m)
    have own : ∀ (i : Nat) (s : Sl), s.Hold → (wipeR ρ vs)[i]? = some (some s) → (L2.wipe σ vs)[i]? ≠ some (some (.ref D)) := fun i s hs h1 h2 => aD ((st1.wiped vs).hold hs h1 h2).1
    have nO : ∀ b ∈ D :: O, hide O H1 b = none := fun b hb => by
      rcases List.mem_cons.mp hb with rfl | hb
      · exact hide_none nD
      · exact hide_in hb
    refine ⟨fun i m H' => i ≤ ds.length ∧ m = ds.length - i ∧ ∃ kvs acc, St0 K Tb H0 O0 (D :: O) H' (L2.wipe σ vs) (wipeR ρ vs) ∧ Ext H1 H' ∧ H' D = some (.dK kvs) ∧ DkR K (hide (D :: O) H') kvs acc ∧ acc.length ≤ i ∧ dkGo t ft fk fv (wipeR ρ vs) (ds.drop i) acc = .ok ks,
      ⟨ds.length, Nat.zero_le _, by simp, [], [], stw, Ext.new nD, upd_same, .nil, Nat.le_refl _, q⟩, ?_⟩
    rintro i m H' ⟨hi, rfl, kvs, acc, s1, e1, hD, hk, la, go⟩
    have eG : Ext (hide O H1) H' := Ext.unhide.trans e1
    by_cases hlt : i < ds.length
    · refine .inr ⟨it.go i H' eG hlt, fun H2 => i + 1 ≤ ds.length ∧ ∃ kvs acc, St0 K Tb H0 O0 (D :: O) H2 (L2.wipe σ vs) (wipeR ρ vs) ∧ Ext H1 H2 ∧ H2 D = some (.dK kvs) ∧ DkR K (hide (D :: O) H2) kvs acc ∧ acc.length ≤ i + 1 ∧ dkGo t ft fk fv (wipeR ρ vs) (ds.drop (i + 1)) acc = .ok ks,
        fun H2 q => ⟨ds.length - (i + 1), by omega, q.1, rfl, q.2⟩, fun x H2 y => ?_⟩
      obtain ⟨e2, d, hd, rx⟩ := it.yld i H' (D :: O) x H2 eG nO s1.al hlt y
      have hdr : ds.drop i = d :: ds.drop (i + 1) := by
        obtain ⟨hl, hd'⟩ := List.getElem?_eq_some_iff.mp hd
        rw [List.drop_eq_getElem_cons hl, hd']
      rw [hdr] at go
      unfold dkGo at go
      cases et : t.set d (wipeR ρ vs) with
      | none => rw [et] at go; cases go
      | some ρ1 =>
        rw [et] at go
        obtain ⟨b, eb, go⟩ := nx_ok go
        have s2 := s1.step e2
        refine ⟨H0, O0, D :: O, wipeR ρ vs, ρ1, d, s2, rx, et, fun σ' st' ag => ⟨(ag.wipe hv).trans wipe_wipe, H0, O0, D :: O, ρ1, st', ?_⟩⟩
        rw [eb]
        intro b' H3 e3 r3
        cases (show b' = b from r3)
        have s3 := st'.step e3
        cases b with
        | false =>
          exact ⟨hlt, kvs, acc, s2.step e3, (e1.trans e2).trans e3, (e2.trans e3).keep D _ hD (fun _ q => by cases q), hk.mono (Sub.hide (e2.trans e3).keep), Nat.le_succ_of_le la, go⟩
        | true =>
          obtain ⟨yd, ey1, go⟩ := nx_ok go
          obtain ⟨zd, ez1, go⟩ := nx_ok go
          refine ⟨H0, O0, D :: O, ρ1, s3, ?_⟩
          rw [ey1]
          intro y H4 e4 r4
          refine ⟨H0, O0, D :: O, ρ1, s3.step e4, ?_⟩
          rw [ez1]
          intro z H5 e5 r5
          cases yd with
          | int key =>
            have go : dkGo t ft fk fv (wipeR ρ vs) (ds.drop (i + 1)) (putKD acc key zd) = .ok ks := go
            cases r4
            have e25 := ((e2.trans e3).trans e4).trans e5
            have hD5 := e25.keep D _ hD (fun _ q => by cases q)
            have s5 := ((s2.step e3).step e4).step e5
            have hk5 := hk.mono (Sub.hide e25.keep)
            have zl : kvs.length < sizeLine := by have := it.len; have := hk.len; omega
            refine ⟨kvs, Sum.inl key, rfl, hD5, zl, hlt, _, _, s5.hidO List.mem_cons_self aD0 hD5 (plain_dk _) (plain_dk _) own, (e1.trans e25).updN nD (fun c q z => (plain_dk kvs).1 c q (Option.some.inj (hD5.symm.trans z))), upd_same, ?_, by have := putKD_len acc key zd; omega, go⟩
            rw [hide_upd List.mem_cons_self]
            exact hk5.put r5
          | _ => cases go
    · have ei : i = ds.length := by omega
      subst ei
      refine .inl ⟨it.stop H' eG, D, kvs, rfl, hD, fun od => ?_⟩
      rw [List.drop_length] at go
      cases go
      refine k _ (upd H' D (.frz od (.dK kvs))) (e1.updN nD (fun c q z => (plain_dk kvs).1 c q (Option.some.inj (hD.symm.trans z)))) ?_
      refine .dk (o := od) (kvs := kvs) (by rw [hide_out aD, upd_same]) hk.1 (hk.2.mono ?_)
      refine Sub.trans ?_ (Sub.less fun b hb => List.mem_cons_of_mem D hb)
      rw [hide_upd List.mem_cons_self]
      exact fun _ _ h _ => h
/-- {key: value for t in i if c} -/
theorem fd_dcK {kx vx tg iter : Expr} {ifs : List Expr} {scope : Scope} {own : List (Str × Nat)} {pos : Pos} {fi : DnL} {t : Tg} {ft : DnB} {fk fv : Dn} (hc : X.calm = true) (hN : X.N.Nodup) (hi : PI X tg iter (tI X.K Tb W fi)) (ok : BlkOk X.N X.env.scope scope own)
    (hg : ∀ (s : Shared) (H : Hp) (C : Addr) (cl : List (Str × Addr)) (fp : List Addr), PG (X.blk s H scope (compEnvC scope cl C X.env) fp) tg (tG X.K Tb t))
    (ht : ∀ (s : Shared) (H : Hp) (C : Addr) (cl : List (Str × Addr)) (fp : List Addr), PTs (X.blk s H scope (compEnvC scope cl C X.env) fp) ifs (tDT X.K Tb W0 ft))
    (hk : ∀ (s : Shared) (H : Hp) (C : Addr) (cl : List (Str × Addr)) (fp : List Addr), PE (X.blk s H scope (compEnvC scope cl C X.env) fp) kx (tD X.K Tb W0 fk))
    (he : ∀ (s : Shared) (H : Hp) (C : Addr) (cl : List (Str × Addr)) (fp : List Addr), PE (X.blk s H scope (compEnvC scope cl C X.env) fp) vx (tD X.K Tb W0 fv))
    (hv : ∀ i ∈ t.ixs, i ∈ own.map (·.2) := by decide) (hs : ∀ x, foldedSetIterable iter X.env x = pure x := by intro _; rfl) : PE X (.DictComp kx vx [⟨tg, iter, ifs, 0⟩] scope pos) (tD X.K Tb W (dDcK fi t ft fk fv (own.map (·.2)))) :=
  (pe_seal (pe_dc hc hN hi ok hg ht hk he hs)).by fun σ H Q h => dk_walk hv h
end
end PD
set_option Elab.async false
set_option linter.all false
set_option maxRecDepth 100000
set_option maxHeartbeats 1000000
namespace PD
open PySem PySem.Spec PyProof.Rows L2
end PD
set_option Elab.async false
set_option linter.all false
set_option maxRecDepth 100000
set_option maxHeartbeats 1000000
namespace PD
open PySem PySem.Spec PyProof.Rows L2
inductive Vl where
  | p (d : PyData)
  | rf (l : Nat)
  | tp (xs : List Vl)
inductive Cell where
  | lst (xs : List Vl)
  | ins (C : Addr) (fs : List (Str × Vl))
  | dk (ks : List (Int × PyData))
abbrev Store := List Cell
abbrev RhoO := List (Option Vl)
mutual
inductive VlR (K : PySem.W.Frag) (G : Hp) (ι : List Addr) : V → Vl → Prop
  | p {v : V} {d : PyData} : Rp K G v d → VlR K G ι v (.p d)
  | rf {a : Addr} {l : Nat} : ι[l]? = some a → VlR K G ι (.ref a) (.rf l)
  | tp {a : Addr} {vs : List V} {xs : List Vl} : SqT K G a vs → xs.length ≤ sizeLine → VlRs K G ι vs xs → VlR K G ι (.ref a) (.tp xs)
inductive VlRs (K : PySem.W.Frag) (G : Hp) (ι : List Addr) : List V → List Vl → Prop
  | nil : VlRs K G ι [] []
  | cons {v : V} {vs : List V} {x : Vl} {xs : List Vl} : VlR K G ι v x → VlRs K G ι vs xs → VlRs K G ι (v :: vs) (x :: xs)
end
def CellR (K : PySem.W.Frag) (G H : Hp) (ι : List Addr) (a : Addr) : Cell → Prop
  | .lst xs => ∃ vs, H a = some (.lst vs) ∧ xs.length ≤ sizeLine ∧ VlRs K G ι vs xs
  | .ins C fs => ∃ dx gs, H a = some (.ins C dx gs) ∧ gs.map (·.1) = fs.map (·.1) ∧ VlRs K G ι (gs.map (·.2)) (fs.map (·.2))
  | .dk ks => ∃ kvs, H a = some (.dK kvs) ∧ DkR K G kvs ks
section
variable {K : PySem.W.Frag} {G G' : Hp} {ι ι' : List Addr}
theorem pre_get {l : Nat} {a : Addr} (p : ι <+: ι') (h : ι[l]? = some a) : ι'[l]? = some a := by
  obtain ⟨t, rfl⟩ := p
  rw [List.getElem?_append_left ((List.getElem?_eq_some_iff.mp h).1)]
  exact h
theorem VlR.mono (s : Sub G G') (p : ι <+: ι') {v : V} {x : Vl} (h : VlR K G ι v x) : VlR K G' ι' v x :=
  VlR.rec (motive_1 := fun v x _ => VlR K G' ι' v x) (motive_2 := fun vs xs _ => VlRs K G' ι' vs xs) (fun r => .p (Rp.mono s r)) (fun h => .rf (pre_get p h)) (fun a z _ b => .tp (s.sqT a) z b) .nil (fun _ _ a b => .cons a b) h
theorem VlRs.mono (s : Sub G G') (p : ι <+: ι') : ∀ {vs : List V} {xs : List Vl}, VlRs K G ι vs xs → VlRs K G' ι' vs xs
  | _, _, .nil => .nil
  | _, _, .cons a b => .cons (a.mono s p) (VlRs.mono s p b)
theorem VlRs.length : ∀ {vs : List V} {xs : List Vl}, VlRs K G ι vs xs → vs.length = xs.length
  | _, _, .nil => rfl
  | _, _, .cons _ t => by simp [VlRs.length t]
theorem VlRs.get : ∀ {vs : List V} {xs : List Vl} {i : Nat} {x : Vl}, VlRs K G ι vs xs → xs[i]? = some x → ∃ v, vs[i]? = some v ∧ VlR K G ι v x
  | _, _, _, _, .nil, h => by simp at h
  | _, _, 0, _, .cons r _, h => by simp at h; subst h; exact ⟨_, rfl, r⟩
  | _, _, i + 1, _, .cons _ t, h => by
    obtain ⟨v, h1, h2⟩ := VlRs.get (i := i) t (by simpa using h)
    exact ⟨v, by simpa using h1, h2⟩
theorem VlRs.append : ∀ {vs ws : List V} {xs ys : List Vl}, VlRs K G ι vs xs → VlRs K G ι ws ys → VlRs K G ι (vs ++ ws) (xs ++ ys)
  | _, _, _, _, .nil, q => q
  | _, _, _, _, .cons r t, q => .cons r (VlRs.append t q)
theorem VlRs.one {v : V} {x : Vl} (h : VlR K G ι v x) : VlRs K G ι [v] [x] := .cons h .nil
theorem VlRs.set {v : V} {x : Vl} (r : VlR K G ι v x) : ∀ {vs : List V} {xs : List Vl} (i : Nat), VlRs K G ι vs xs → VlRs K G ι (vs.set i v) (xs.set i x)
  | _, _, _, .nil => .nil
  | _, _, 0, .cons _ t => .cons r t
  | _, _, i + 1, .cons q t => .cons q (VlRs.set r i t)
theorem VlRs.erase : ∀ {vs : List V} {xs : List Vl} (i : Nat), VlRs K G ι vs xs → VlRs K G ι (vs.eraseIdx i) (xs.eraseIdx i)
  | _, _, _, .nil => .nil
  | _, _, 0, .cons _ t => t
  | _, _, i + 1, .cons q t => .cons q (VlRs.erase i t)
theorem CellR.mono {H H' : Hp} (s : Sub G G') (p : ι <+: ι') {a : Addr} {c : Cell} (e : H' a = H a) (h : CellR K G H ι a c) : CellR K G' H' ι' a c := by
  cases c with
  | lst xs => obtain ⟨vs, h1, z, h2⟩ := h; exact ⟨vs, e.trans h1, z, h2.mono s p⟩
  | ins C fs => obtain ⟨dx, gs, h1, h2, h3⟩ := h; exact ⟨dx, gs, e.trans h1, h2, h3.mono s p⟩
  | dk ks => obtain ⟨kvs, h1, h2⟩ := h; exact ⟨kvs, e.trans h1, h2.mono s⟩
/-- what stands where a cell lies -/
def CellO (o : HO) : Prop := (∃ vs, o = .lst vs) ∨ (∃ C dx gs, o = .ins C dx gs) ∨ ∃ kvs, o = .dK kvs
theorem CellO.plain {o : HO} (h : CellO o) : Plain o := by
  rcases h with ⟨vs, rfl⟩ | ⟨C, dx, gs, rfl⟩ | ⟨kvs, rfl⟩
  · exact plain_lst vs
  · exact ⟨fun _ _ h => (by unfold LamX.CodeO at h; cases h), fun _ h => (by cases h)⟩
  · exact plain_dk kvs
theorem CellR.obj {H : Hp} {a : Addr} {c : Cell} (h : CellR K G H ι a c) : ∃ o, H a = some o ∧ CellO o := by
  cases c with
  | lst xs => obtain ⟨vs, h1, _⟩ := h; exact ⟨_, h1, .inl ⟨_, rfl⟩⟩
  | ins C fs => obtain ⟨dx, gs, h1, _⟩ := h; exact ⟨_, h1, .inr (.inl ⟨_, _, _, rfl⟩)⟩
  | dk ks => obtain ⟨kvs, h1, _⟩ := h; exact ⟨_, h1, .inr (.inr ⟨_, rfl⟩)⟩
end
structure BaseO (K : PySem.W.Frag) (Tb O ι : List Addr) (H : Hp) (S : Store) : Prop where
  al : Al O H
  tab : ∀ P ∈ Tb, TabC H P
  nd : ι.Nodup
  dj : ∀ b ∈ ι, b ∉ O
  len : ι.length = S.length
  cell : ∀ (l : Nat) (c : Cell) (a : Addr), S[l]? = some c → ι[l]? = some a → CellR K (hide (O ++ ι) H) H ι a c
structure TrO (ι : List Addr) (H : Hp) (ι' : List Addr) (H' : Hp) : Prop where
  pre : ι <+: ι'
  keep : ∀ b o, H b = some o → b ∉ ι → (∀ ps, o ≠ .tbl ps) → H' b = some o
  tab : ∀ b, TabC H b → TabC H' b
  al : ∀ b, H b ≠ none → H' b ≠ none
  new : ∀ b ∈ ι', b ∉ ι → H b = none
section
variable {K : PySem.W.Frag} {Tb O ι ι' ι1 ι2 : List Addr} {H H' H1 H2 : Hp} {S : Store}
theorem TrO.refl (ι : List Addr) (H : Hp) : TrO ι H ι H := ⟨List.prefix_refl _, fun _ _ h _ _ => h, fun _ h => h, fun _ h => h, fun _ h n => absurd h n⟩
theorem TrO.ext (e : Ext H H') : TrO ι H ι H' := ⟨List.prefix_refl _, fun b o h _ t => e.keep b o h t, e.tab, e.al, fun _ h n => absurd h n⟩
theorem TrO.trans (a : TrO ι H ι1 H1) (b : TrO ι1 H1 ι2 H2) : TrO ι H ι2 H2 where
  pre := a.pre.trans b.pre
  keep := fun c o h n t => b.keep c o (a.keep c o h n t) (fun m => by rw [a.new c m n] at h; cases h) t
  tab := fun c h => b.tab c (a.tab c h)
  al := fun c h => b.al c (a.al c h)
  new := fun c m n => by
    by_cases m1 : c ∈ ι1
    · exact a.new c m1 n
    · have h := b.new c m m1
      cases q : H c with
      | none => rfl
      | some o => exact absurd h (a.al c (by rw [q]; simp))
theorem TrO.sub (a : TrO ι H ι1 H1) : Sub (hide (O ++ ι) H) (hide (O ++ ι1) H1) := fun b o h t => by
  obtain ⟨h1, h2⟩ := hide_some h
  rw [List.mem_append, not_or] at h1
  rw [hide_out]
  · exact a.keep b o h2 h1.2 t
  · rw [List.mem_append, not_or]
    exact ⟨h1.1, fun m => by rw [a.new b m h1.2] at h2; cases h2⟩
theorem TrO.hid (a : TrO ι H ι1 H1) : Ext (hide (O ++ ι) H) H1 where
  keep := fun b o h t => by
    obtain ⟨h1, h2⟩ := hide_some h
    rw [List.mem_append, not_or] at h1
    exact a.keep b o h2 h1.2 t
  tab := fun b t => a.tab b (Ext.unhide.tab b t)
  al := fun b h => a.al b (Ext.unhide.al b h)
theorem BaseO.obj (B : BaseO K Tb O ι H S) {b : Addr} (m : b ∈ ι) : ∃ o, H b = some o ∧ CellO o := by
  obtain ⟨l, hl⟩ := List.mem_iff_getElem?.mp m
  have il : l < S.length := by rw [← B.len]; exact (List.getElem?_eq_some_iff.mp hl).1
  exact (B.cell l S[l] b (List.getElem?_eq_getElem il) hl).obj
theorem BaseO.step (B : BaseO K Tb O ι H S) (e : Ext H H') : BaseO K Tb O ι H' S where
  al := fun b m => e.al b (B.al b m)
  tab := fun P m => e.tab P (B.tab P m)
  nd := B.nd
  dj := B.dj
  len := B.len
  cell := fun l c a h1 h2 => by
    have r := B.cell l c a h1 h2
    obtain ⟨o, h, q⟩ := r.obj
    exact r.mono (Sub.hide e.keep) (List.prefix_refl _) (by rw [h]; exact e.keep a o h q.plain.2)
theorem nodup_inj {l : List Addr} (n : l.Nodup) {i j : Nat} {b : Addr} (h1 : l[i]? = some b) (h2 : l[j]? = some b) : i = j := by
  obtain ⟨a1, b1⟩ := List.getElem?_eq_some_iff.mp h1
  obtain ⟨a2, b2⟩ := List.getElem?_eq_some_iff.mp h2
  have p := List.pairwise_iff_getElem.mp n
  rcases Nat.lt_trichotomy i j with h | h | h
  · exact absurd (b1.trans b2.symm) (p i j a1 a2 h)
  · exact h
  · exact absurd (b2.trans b1.symm) (p j i a2 a1 h)
/-- a cell's place is written -/
theorem BaseO.put (B : BaseO K Tb O ι H S) {l : Nat} {a : Addr} {o' : HO} {c' : Cell} (ha : ι[l]? = some a) (r : CellR K (hide (O ++ ι) H) (upd H a o') ι a c') : BaseO K Tb O ι (upd H a o') (S.set l c') ∧ TrO ι H ι (upd H a o') := by
  have ma : a ∈ ι := List.mem_of_getElem? ha
  have il : l < ι.length := (List.getElem?_eq_some_iff.mp ha).1
  obtain ⟨o, ho, co⟩ := B.obj ma
  have hh : hide (O ++ ι) (upd H a o') = hide (O ++ ι) H := hide_upd (List.mem_append_right _ ma)
  have tab : ∀ b, TabC H b → TabC (upd H a o') b := fun b t => by
    have hb : b ≠ a := tabG_ne t fun ps q => by rw [ho] at q; exact co.plain.2 ps (Option.some.inj q)
    exact t.mono (fun ps h => by rw [upd_ne hb]; exact h) fun c q h => by
      rw [upd_ne fun z => by subst z; exact co.plain.1 _ q (Option.some.inj (ho.symm.trans h))]; exact h
  have al : ∀ b, H b ≠ none → upd H a o' b ≠ none := fun b h => by
    by_cases hb : b = a
    · rw [hb, upd_same]; simp
    · rw [upd_ne hb]; exact h
  refine ⟨⟨fun b m => al b (B.al b m), fun P m => tab P (B.tab P m), B.nd, B.dj, by rw [List.length_set]; exact B.len, fun k c b h1 h2 => ?_⟩, ⟨List.prefix_refl _, fun b x h n t => ?_, tab, al, fun _ h n => absurd h n⟩⟩
  · rw [hh]
    by_cases ek : l = k
    · subst ek
      rw [List.getElem?_set_self (by rw [← B.len]; exact il)] at h1
      cases h1
      rw [ha] at h2
      cases h2
      exact r
    · rw [List.getElem?_set_ne ek] at h1
      have hb : b ≠ a := fun e => by
        subst e
        exact ek (nodup_inj B.nd ha h2)
      exact (B.cell k c b h1 h2).mono (fun _ _ h _ => h) (List.prefix_refl _) (upd_ne hb)
  · rw [upd_ne fun e => n (by rw [e]; exact ma)]; exact h
/-- a new cell -/
theorem BaseO.more (B : BaseO K Tb O ι H S) (e : Ext H H') {a : Addr} {c : Cell} (n : H a = none) (r : CellR K (hide (O ++ (ι ++ [a])) H') H' (ι ++ [a]) a c) : BaseO K Tb O (ι ++ [a]) H' (S ++ [c]) ∧ TrO ι H (ι ++ [a]) H' := by
  have na : a ∉ ι := fun m => by obtain ⟨o, h, _⟩ := B.obj m; rw [n] at h; cases h
  have nO : a ∉ O := fun m => B.al a m n
  have new : ∀ b ∈ ι ++ [a], b ∉ ι → H b = none := fun b m h => by
    rcases List.mem_append.mp m with m | m
    · exact absurd m h
    · rw [List.mem_singleton.mp m]; exact n
  have tr : TrO ι H (ι ++ [a]) H' := ⟨List.prefix_append _ _, fun b o h _ t => e.keep b o h t, e.tab, e.al, new⟩
  refine ⟨⟨fun b m => e.al b (B.al b m), fun P m => e.tab P (B.tab P m), ?_, fun b m => ?_, by simp [B.len], fun k c' b h1 h2 => ?_⟩, tr⟩
  · exact List.nodup_append.mpr ⟨B.nd, by simp, fun x hx y hy => by rw [List.mem_singleton.mp hy]; exact fun z => na (z ▸ hx)⟩
  · rcases List.mem_append.mp m with m | m
    · exact B.dj b m
    · rw [List.mem_singleton.mp m]; exact nO
  · by_cases hk : k < S.length
    · rw [List.getElem?_append_left hk] at h1
      rw [List.getElem?_append_left (by rw [B.len]; exact hk)] at h2
      have r0 := B.cell k c' b h1 h2
      obtain ⟨o, h, q⟩ := r0.obj
      exact r0.mono tr.sub tr.pre (by rw [h]; exact e.keep b o h q.plain.2)
    · have h2l := (List.getElem?_eq_some_iff.mp h2).1
      have hk2 : k = S.length := by
        rw [List.length_append, B.len] at h2l
        simp at h2l
        omega
      subst hk2
      rw [List.getElem?_append_right (Nat.le_refl _), Nat.sub_self] at h1
      rw [← B.len, List.getElem?_append_right (Nat.le_refl _), Nat.sub_self] at h2
      cases h1
      cases h2
      exact r
end
end PD
set_option Elab.async false
set_option linter.all false
set_option maxRecDepth 100000
set_option maxHeartbeats 1000000
namespace PD
open PySem PySem.Spec PyProof.Rows L2
inductive RO (α : Type) where
  | ok (a : α) (S : Store)
  | exc (e : Ex) (S : Store)
  | bad
def RO.bind {α β : Type} (x : RO α) (f : α → Store → RO β) : RO β := match x with
  | .ok a S => f a S
  | .exc e S => .exc e S
  | .bad => .bad
@[simp] theorem RO.bind_ok {α β : Type} (a : α) (S : Store) (f : α → Store → RO β) : (RO.ok a S).bind f = f a S := rfl
@[simp] theorem RO.bind_exc {α β : Type} (e : Ex) (S : Store) (f : α → Store → RO β) : (RO.exc e S : RO α).bind f = RO.exc e S := rfl
@[simp] theorem RO.bind_bad {α β : Type} (f : α → Store → RO β) : (RO.bad : RO α).bind f = RO.bad := rfl
structure StO (K : PySem.W.Frag) (Tb ι0 : List Addr) (H0 : Hp) (O ι : List Addr) (H : Hp) (σ : L2.St) (ρ : RhoO) (S : Store) : Prop where
  base : BaseO K Tb O ι H S
  tr : TrO ι0 H0 ι H
  len : σ.length = ρ.length
  slot : ∀ (i : Nat) (x : Vl), ρ[i]? = some (some x) → ∃ v, σ[i]? = some (some v) ∧ VlR K (hide (O ++ ι) H) ι v x
def PostO (K : PySem.W.Frag) (Tb O ι : List Addr) (H : Hp) {α β : Type} (Rl : List Addr → Hp → β → α → Prop) (W : Value → Option Addr → Hp → Prop) (x : RO α) (Q : β → Hp → Prop) : Prop := match x with
  | .ok d S' => ∀ v ι' H', TrO ι H ι' H' → BaseO K Tb O ι' H' S' → Rl ι' H' v d → Q v H'
  | .exc e S' => ∀ c dd ι' H', TrO ι H ι' H' → BaseO K Tb O ι' H' S' → ExR K (hide (O ++ ι') H') H' c dd e → W c dd H'
  | .bad => False
abbrev EO := RhoO → Store → RO Vl
section
variable {K : PySem.W.Frag} {Tb ι0 O ι ι1 : List Addr} {H0 H H1 : Hp} {S S1 : Store} {σ : L2.St} {ρ : RhoO} {α α' β β' : Type} {Rl : List Addr → Hp → β → α → Prop} {Rl' : List Addr → Hp → β' → α' → Prop} {W : Value → Option Addr → Hp → Prop}
theorem StO.step (st : StO K Tb ι0 H0 O ι H σ ρ S) (t : TrO ι H ι1 H1) (B : BaseO K Tb O ι1 H1 S1) : StO K Tb ι0 H0 O ι1 H1 σ ρ S1 where
  base := B
  tr := st.tr.trans t
  len := st.len
  slot := fun i x h => by
    obtain ⟨v, h1, h2⟩ := st.slot i x h
    exact ⟨v, h1, h2.mono t.sub t.pre⟩
theorem PostO.step {x : RO α} {Q : β → Hp → Prop} (h : PostO K Tb O ι H Rl W x Q) (t : TrO ι H ι1 H1) : PostO K Tb O ι1 H1 Rl W x Q := by
  cases x with
  | ok d S' => exact fun v ι' H' t' B r => h v ι' H' (t.trans t') B r
  | exc e S' => exact fun c dd ι' H' t' B r => h c dd ι' H' (t.trans t') B r
  | bad => exact h
theorem PostO.mono {x : RO α} {Q Q' : β → Hp → Prop} (h : PostO K Tb O ι H Rl W x Q) (k : ∀ b H1, Q b H1 → Q' b H1) : PostO K Tb O ι H Rl W x Q' := by
  cases x with
  | ok d S' => exact fun v ι' H' t B r => k _ _ (h v ι' H' t B r)
  | exc e S' => exact h
  | bad => exact h
end
section
variable {K : PySem.W.Frag} {Tb ι0 O ι ι1 : List Addr} {H0 H H1 : Hp} {S S1 : Store} {σ : L2.St} {ρ : RhoO} {W : WX}
theorem St0.plain {O : List Addr} {ρ : Rho} (al : Al O H) (tab : ∀ P ∈ Tb, TabC H P) (len : σ.length = ρ.length) (slot : ∀ (i : Nat) (s : Sl), ρ[i]? = some (some s) → ∃ v d, s = .d d ∧ σ[i]? = some (some v) ∧ Rp K (hide O H) v d) : St0 K Tb H O O H σ ρ where
  ext := Ext.refl H
  sub := fun _ h => h
  new := fun b h h2 => absurd h h2
  al := al
  tab := tab
  pln := fun b m n => absurd m n
  len := len
  slot := fun i s h => by
    obtain ⟨v, d, rfl, h1, h2⟩ := slot i s h
    exact ⟨v, h1, h2⟩
  inj := fun i j p s t hs _ h1 _ _ _ => by
    obtain ⟨v, d, rfl, _⟩ := slot i s h1
    exact hs.elim
end
end PD
set_option Elab.async false
set_option linter.all false
set_option maxRecDepth 100000
set_option maxHeartbeats 1000000
namespace PD
open PySem PySem.Spec PyProof.Rows L2
def asFs : List (PyData × PyData) → Option (List (Str × PyData))
  | [] => some []
  | (.str n, v) :: l => match asFs l with
    | some r => some ((n, v) :: r)
    | none => none
  | _ => none
def asOb : PyData → Option (Addr × List (Str × PyData))
  | .dict ((.none, .int c) :: l) => (match asFs l with
    | some fs => some (c.toNat, fs)
    | none => none)
  | _ => none
theorem asFs_map : ∀ fs : List (Str × PyData), asFs (fs.map fun x => (PyData.str x.1, x.2)) = some fs
  | [] => rfl
  | x :: fs => by rw [List.map_cons, asFs, asFs_map fs]
@[simp] theorem asOb_obD (C : Addr) (fs : List (Str × PyData)) : asOb (obD C fs) = some (C, fs) := by
  show (match asFs (fs.map fun x => (PyData.str x.1, x.2)) with | some fs => some (((C : Int)).toNat, fs) | none => none) = _
  rw [asFs_map]
  rfl
end PD
set_option Elab.async false
set_option linter.all false
set_option maxRecDepth 100000
set_option maxHeartbeats 1000000
namespace PD
open PySem PySem.Spec PyProof.Rows L2
theorem StO.set {K : PySem.W.Frag} {Tb ι0 O ι : List Addr} {H0 H : Hp} {S : Store} {σ : L2.St} {ρ : RhoO} {i : Nat} {v : V} {x : Vl} (st : StO K Tb ι0 H0 O ι H σ ρ S) (r : VlR K (hide (O ++ ι) H) ι v x) : StO K Tb ι0 H0 O ι H (σ.set i (some v)) (ρ.set i (some x)) S where
  base := st.base
  tr := st.tr
  len := by rw [List.length_set, List.length_set]; exact st.len
  slot := fun j y h => by
    by_cases e : i = j
    · subst e
      by_cases il : i < ρ.length
      · rw [List.getElem?_set_self il] at h
        cases h
        exact ⟨v, List.getElem?_set_self (by rw [st.len]; exact il), r⟩
      · rw [List.getElem?_eq_none (by rw [List.length_set]; omega)] at h; cases h
    · rw [List.getElem?_set_ne e] at h ⊢
      exact st.slot j y h
end PD
set_option Elab.async false
set_option linter.all false
set_option maxRecDepth 100000
set_option maxHeartbeats 1000000
namespace PD
open PySem PySem.Spec PyProof.Rows L2
inductive OutO where
  | nx (ρ : RhoO) (S : Store)
  | rt (d : Vl) (S : Store)
  | bk (ρ : RhoO) (S : Store)
  | ct (ρ : RhoO) (S : Store)
  | exc (e : Ex) (ρ : RhoO) (S : Store)
  | bad
def oRO {α : Type} (x : RO α) (ρ : RhoO) (k : α → Store → OutO) : OutO := match x with
  | .ok a S => k a S
  | .exc e S => .exc e ρ S
  | .bad => .bad
@[simp] theorem oRO_ok {α : Type} (a : α) (S : Store) (ρ : RhoO) (k : α → Store → OutO) : oRO (.ok a S) ρ k = k a S := rfl
end PD
set_option Elab.async false
set_option linter.all false
set_option maxRecDepth 100000
set_option maxHeartbeats 1000000
namespace PD
open PySem PySem.Spec PyProof.Rows L2
section
variable {X : Cx} {Tb : List Addr} {W : WX} {o e ei value : Expr} {g h ge gi : EO} {C : Addr} {f : Str} {fs : List Str} {pos pos' apos cpos spos : Pos}
theorem VlRs.dropLast {K : PySem.W.Frag} {G : Hp} {ι : List Addr} : ∀ {vs : List V} {xs : List Vl}, VlRs K G ι vs xs → VlRs K G ι vs.dropLast xs.dropLast
  | _, _, .nil => .nil
  | _, _, .cons r .nil => .nil
  | _, _, .cons r (.cons r2 t) => .cons r (VlRs.dropLast (.cons r2 t))
end
section
variable {P : Program} {w : World} {K : PySem.W.Frag} {mg : Str → Option Value} {base : Heap} {Tb : List Addr}
theorem StO.init {O ι : List Addr} {H : Hp} {S : Store} {vs : List V} {xs : List Vl} (n : Nat) (B : BaseO K Tb O ι H S) (r : VlRs K (hide (O ++ ι) H) ι vs xs) : StO K Tb ι H O ι H (vs.map some ++ List.replicate n none) (xs.map some ++ List.replicate n none) S where
  base := B
  tr := .refl _ _
  len := by simp [r.length]
  slot := fun i x h => by
    have hi : i < xs.length := by
      by_cases hi : i < xs.length
      · exact hi
      · rw [List.getElem?_append_right (by simpa using hi), List.getElem?_replicate] at h
        split at h <;> cases h
    rw [List.getElem?_append_left (by simpa using hi), List.getElem?_map] at h
    cases e : xs[i]? with
    | none => rw [e] at h; cases h
    | some d =>
      rw [e] at h
      cases h
      obtain ⟨v, h1, h2⟩ := r.get e
      refine ⟨v, ?_, h2⟩
      have hl : i < vs.length := by rw [r.length]; exact hi
      rw [List.getElem?_append_left (by simpa using hl), List.getElem?_map, h1]
      rfl
end
end PD
set_option Elab.async false
set_option linter.all false
set_option maxRecDepth 100000
set_option maxHeartbeats 1000000
namespace PD
open PySem PySem.Spec PyProof.Rows L2
end PD
set_option Elab.async false
set_option linter.all false
set_option maxRecDepth 100000
set_option maxHeartbeats 1000000
namespace PD
open PySem PySem.Spec PyProof.Rows L2
end PD
namespace PD
open PySem PySem.Spec PyProof.Rows L2
end PD
set_option Elab.async false
set_option linter.all false
set_option maxRecDepth 100000
set_option maxHeartbeats 4000000
namespace LW
open PySem PySem.Spec PyProof.Rows L2 PD
def b_law_draws_1 : Sn := (gIf (dAnd (dAsB (dVar 3)) (dAsB (dTwo oGt (dVar 2) (dC (.int 0))))) (gSeq (gApp 5 (dTwo oMod (dArg bInt (dCons (dVar 2) dNil)) (dC (.int 5040)))) (gSet (dTwo oDiv (dVar 2) (dC (.int 5040))) (.nm 2))) (gSeq (gSet (dTwo oMod (dArg bInt (dCons (dTwo oAdd (dTwo oAdd (dTwo oMul (dVar 4) (dC (.int 48271))) (dTwo oMul (dTwo oAdd (dVar 6) (dC (.int 1))) (dC (.int 69621)))) (dC (.int 11))) dNil)) (dC (.int 2147483647))) (.nm 7)) (gSeq (gSet (dTwo oMod (dArg bInt (dCons (dTwo oAdd (dTwo oMul (dVar 7) (dVar 7)) (dTwo oMul (dC (.int 40692)) (dTwo oAdd (dVar 6) (dC (.int 3))))) dNil)) (dC (.int 2147483399))) (.nm 7)) (gApp 5 (dTwo oMod (dArg bInt (dCons (dTwo oDiv (dVar 7) (dC (.int 64))) dNil)) (dC (.int 5040)))))))
def g_law_draws : Sn := (gSeq (gSet (dArg bAbs (dCons (dArg bInt (dCons (dVar 0) dNil)) dNil)) (.nm 2)) (gSeq (gSet (dTwo oGe (dVar 2) (dTwo oPow (dC (.int 10)) (dC (.int 18)))) (.nm 3)) (gSeq (gSet (dVar 2) (.nm 4)) (gSeq (gOwn (dLst dNil) 5) (gSeq (gFor (dRng1 (dCons (dVar 1) dNil)) (.nm 6) b_law_draws_1) (gFrz 5 (gRet (dVar 5))))))))
def m_law_draws : List PyData → R PyData := runD 8 2 g_law_draws
def g_law_cell : Sn := (gSeq (gIf (dAsB (dTwo oLt (dVar 1) (dArg bLen (dCons (dVar 0) dNil)))) (gRet (dTwo oIx (dVar 0) (dVar 1))) gSkip) (gRet (dTwo oAdd (dTwo oMul (dC (.int 5)) (dVar 1)) (dC (.int 3)))))
def m_law_cell : List PyData → R PyData := runD 2 2 g_law_cell
def b_law_parts_of_1 : Sn := (gSet (dTwo oAdd (dVar 1) (dLc (dItems (dVar 1)) (.nm 3) dYes (dTwo oAdd (dVar 3) (dTup (dCons (dVar 2) dNil))) [3])) (.nm 1))
def g_law_parts_of : Sn := (gSeq (gSet (dLst (dCons (dTup dNil) dNil)) (.nm 1)) (gSeq (gFor (dRng1 (dCons (dVar 0) dNil)) (.nm 2) b_law_parts_of_1) (gRet (dArg bSorted (dCons (dVar 1) dNil)))))
def m_law_parts_of : List PyData → R PyData := runD 4 1 g_law_parts_of
def g_law_rest : Sn := (gRet (dArg bTuple (dCons (dLc (dRng1 (dCons (dVar 1) dNil)) (.nm 2) (dAsB (dTwo oNotIn (dVar 2) (dVar 0))) (dVar 2) [2]) dNil)))
def m_law_rest : List PyData → R PyData := runD 3 2 g_law_rest
def g_law_count : Sn := (gRet (dArg bLen (dCons (dLc (dItems (dVar 0)) (.nm 3) (dAsB (dTwo oEq (dTwo oIx (dVar 1) (dVar 3)) (dVar 2))) (dVar 3) [3]) dNil)))
def m_law_count : List PyData → R PyData := runD 4 3 g_law_count
def b_law_smooth_lots_1 : Sn := (gIf (dAsB (dArg bAll (dCons (dLc (dRng1 (dCons (dC (.int 3)) dNil)) (.nm 10) dYes (dTwo oLe (dArg m_law_count (dCons (dVar 6) (dCons (dVar 3) (dCons (dVar 10) dNil)))) (dTwo oIx (dVar 4) (dVar 10))) [10]) dNil))) (gApp 5 (dVar 6)) gSkip)
def g_law_smooth_lots : Sn := (gSeq (gSet (dArg m_law_draws (dCons (dVar 0) (dCons (dTwo oAdd (dC (.int 3)) (dVar 1)) dNil))) (.nm 2)) (gSeq (gSet (dLc (dRng1 (dCons (dVar 1) dNil)) (.nm 9) dYes (dTwo oMod (dArg bInt (dCons (dTwo oIx (dVar 2) (dTwo oAdd (dC (.int 3)) (dVar 9))) dNil)) (dC (.int 3))) [9]) (.nm 3)) (gSeq (gSet (dLst (dCons (dTwo oAdd (dC (.int 1)) (dTwo oMod (dArg bInt (dCons (dTwo oIx (dVar 2) (dC (.int 1))) dNil)) (dC (.int 2)))) (dCons (dTwo oAdd (dC (.int 1)) (dTwo oMod (dTwo oDiv (dArg bInt (dCons (dTwo oIx (dVar 2) (dC (.int 1))) dNil)) (dC (.int 2))) (dC (.int 2)))) (dCons (dTwo oMod (dTwo oDiv (dArg bInt (dCons (dTwo oIx (dVar 2) (dC (.int 1))) dNil)) (dC (.int 4))) (dC (.int 3))) dNil)))) (.nm 4)) (gSeq (gOwn (dLst dNil) 5) (gSeq (gFor (dItems (dArg m_law_parts_of (dCons (dVar 1) dNil))) (.nm 6) b_law_smooth_lots_1) (gFrz 5 (gSeq (gSet (dArg bMin2 (dCons (dArg bMax (dCons (dLc (dItems (dVar 5)) (.nm 6) dYes (dArg bLen (dCons (dVar 6) dNil)) [6]) dNil)) (dCons (dTwo oIx (dTup (dCons (dC (.int 2)) (dCons (dC (.int 1)) (dCons (dC (.int 2)) (dCons (dC (.int 3)) (dCons (dC (.int 2)) (dCons (dC (.int 1)) (dCons (dC (.int 3)) (dCons (dC (.int 0)) dNil))))))))) (dTwo oMod (dArg bInt (dCons (dTwo oIx (dVar 2) (dC (.int 0))) dNil)) (dC (.int 8)))) dNil))) (.nm 7)) (gSeq (gSet (dLc (dItems (dVar 5)) (.nm 6) (dAsB (dTwo oEq (dArg bLen (dCons (dVar 6) dNil)) (dVar 7))) (dVar 6) [6]) (.nm 8)) (gSeq (gIf (dAsB (dTwo oEq (dTwo oMod (dArg bInt (dCons (dTwo oIx (dVar 2) (dC (.int 2))) dNil)) (dC (.int 3))) (dC (.int 1)))) (gSet (dArg bSorted (dCons (dLc (dItems (dVar 8)) (.nm 6) dYes (dArg m_law_rest (dCons (dVar 6) (dCons (dVar 1) dNil))) [6]) dNil)) (.nm 8)) gSkip) (gRet (dArg bTuple (dCons (dVar 8) dNil))))))))))))
def m_law_smooth_lots : List PyData → R PyData := runD 11 2 g_law_smooth_lots
def g_law_within : Sn := (gRet (dArg bAll (dCons (dLc (dItems (dVar 0)) (.nm 2) dYes (dTwo oIn (dVar 2) (dVar 1)) [2]) dNil)))
def m_law_within : List PyData → R PyData := runD 3 2 g_law_within
def g_leave_out : Sn := (gRet (dArg bTuple (dCons (dLc (dItems (dVar 0)) (.nm 2) (dAsB (dTwo oNe (dVar 2) (dVar 1))) (dVar 2) [2]) dNil)))
def m_leave_out : List PyData → R PyData := runD 3 2 g_leave_out
def g_law_is_integer : Sn := (gRet (dAndV (dOne (oIsi "int") (dVar 0)) (dNotV (dOne (oIsi "bool") (dVar 0)))))
def m_law_is_integer : List PyData → R PyData := runD 1 1 g_law_is_integer
def b_law_is_set_1 : Sn := (gSeq (gIf (dOr (dNot (dAsB (dArg m_law_is_integer (dCons (dTwo oIx (dVar 0) (dVar 2)) dNil)))) (dOr (dAsB (dTwo oLt (dTwo oIx (dVar 0) (dVar 2)) (dC (.int 0)))) (dAsB (dTwo oGe (dTwo oIx (dVar 0) (dVar 2)) (dVar 1))))) (gRet (dC (.bool false))) gSkip) (gIf (dAnd (dAsB (dTwo oGt (dVar 2) (dC (.int 0)))) (dAsB (dTwo oLe (dTwo oIx (dVar 0) (dVar 2)) (dTwo oIx (dVar 0) (dTwo oSub (dVar 2) (dC (.int 1))))))) (gRet (dC (.bool false))) gSkip))
def g_law_is_set : Sn := (gSeq (gIf (dNot (dAsB (dOne (oIsi "tuple") (dVar 0)))) (gRet (dC (.bool false))) gSkip) (gSeq (gFor (dRng1 (dCons (dArg bLen (dCons (dVar 0) dNil)) dNil)) (.nm 2) b_law_is_set_1) (gRet (dC (.bool true)))))
def m_law_is_set : List PyData → R PyData := runD 3 2 g_law_is_set
end LW
set_option Elab.async false
set_option linter.all false
set_option maxRecDepth 100000
set_option maxHeartbeats 4000000
namespace LW
open PySem PySem.Spec PyProof.Rows L2 PD
def b_law_is_offer_1 : Sn := (gIf (dNot (dAsB (dArg m_law_is_set (dCons (dVar 3) (dCons (dVar 1) dNil))))) (gRet (dC (.bool false))) gSkip)
def g_law_is_offer : Sn := (gSeq (gIf (dOr (dNot (dAsB (dOne (oIsi "tuple") (dVar 0)))) (dOr (dAsB (dTwo oNe (dArg bLen (dCons (dVar 0) dNil)) (dC (.int 2)))) (dOr (dNot (dAsB (dArg m_law_is_integer (dCons (dTwo oIx (dVar 0) (dC (.int 0))) dNil)))) (dAsB (dTwo oNe (dTwo oIx (dVar 0) (dC (.int 0))) (dVar 1)))))) (gRet (dC (.bool false))) gSkip) (gSeq (gIf (dOr (dNot (dAsB (dOne (oIsi "tuple") (dTwo oIx (dVar 0) (dC (.int 1)))))) (dAsB (dTwo oNe (dTwo oIx (dVar 0) (dC (.int 1))) (dVar 2)))) (gRet (dC (.bool false))) gSkip) (gSeq (gFor (dItems (dTwo oIx (dVar 0) (dC (.int 1)))) (.nm 3) b_law_is_offer_1) (gRet (dC (.bool true))))))
def m_law_is_offer : List PyData → R PyData := runD 4 3 g_law_is_offer
end LW
set_option Elab.async false
set_option linter.all false
set_option maxRecDepth 100000
set_option maxHeartbeats 4000000
namespace LW
open PySem PySem.Spec PyProof.Rows L2 PD
def g_fewer_by_one : Sn := (gRet (dLc (dItems (dVar 0)) (.nm 1) dYes (dArg m_leave_out (dCons (dVar 0) (dCons (dVar 1) dNil))) [1]))
def m_fewer_by_one : List PyData → R PyData := runD 2 1 g_fewer_by_one
def b_free_sets_1 : Sn := (gSeq (gSetPop 3 2) (gIf (dThawB (dAsB (dTwo oNotInT (dVar 3) (dVar 1)))) (gSeq (gPutD 1 (dVar 3)) (gExt 2 (dArg m_fewer_by_one (dCons (dVar 3) dNil)))) gSkip))
def g_free_sets : Sn := (gSeq (gNewD 1) (gSeq (gOwn (dArg bList (dCons (dTwo oIx (dVar 0) (dC (.int 1))) dNil)) 2) (gSeq (gWhile (dThawB (dAsB (dTwo oGt (dArg bLen (dCons (dVar 2) dNil)) (dC (.int 0))))) b_free_sets_1 (fun _ => 1000000)) (gFrzD 1 (gRet (dVar 1))))))
def m_free_sets : List PyData → R PyData := runD 4 1 g_free_sets
def g_circuits_above : Sn := (gSeq (gSet (dIf (dAsB (dTwo oGt (dArg bLen (dCons (dVar 0) dNil)) (dC (.int 0)))) (dTwo oAdd (dTwo oIx (dVar 0) (dOne oNeg (dC (.int 1)))) (dC (.int 1))) (dC (.int 0))) (.nm 3)) (gSeq (gSet (dLc (dRng2 (dCons (dVar 3) (dCons (dVar 1) dNil))) (.nm 5) dYes (dTwo oAdd (dVar 0) (dTup (dCons (dVar 5) dNil))) [5]) (.nm 4)) (gRet (dLc (dItems (dVar 4)) (.nm 6) (dAnd (dAsB (dTwo oNotInT (dVar 6) (dVar 2))) (dAsB (dArg bAll (dCons (dLc (dItems (dArg m_fewer_by_one (dCons (dVar 6) dNil))) (.nm 7) dYes (dTwo oInT (dVar 7) (dVar 2)) [7]) dNil)))) (dVar 6) [6]))))
def m_circuits_above : List PyData → R PyData := runD 8 3 g_circuits_above
def g_circuits : Sn := (gSeq (gSet (dArg m_free_sets (dCons (dVar 0) dNil)) (.nm 1)) (gRet (dArg bTuple (dCons (dArg bSorted (dCons (dLc2 (dKeys (dVar 1)) (.nm 2) dYes (dItems (dArg m_circuits_above (dCons (dVar 2) (dCons (dTwo oIx (dVar 0) (dC (.int 0))) (dCons (dVar 1) dNil))))) (.nm 3) dYes (dVar 3) [2, 3] [3]) dNil)) dNil))))
def m_circuits : List PyData → R PyData := runD 4 1 g_circuits
def g_law_free : Sn := (gRet (dArg bAny (dCons (dLc (dItems (dVar 1)) (.nm 2) dYes (dArg m_law_within (dCons (dVar 0) (dCons (dVar 2) dNil))) [2]) dNil)))
def m_law_free : List PyData → R PyData := runD 3 2 g_law_free
end LW
set_option Elab.async false
set_option linter.all false
set_option maxRecDepth 100000
set_option maxHeartbeats 4000000
set_option Elab.async false
set_option linter.all false
set_option maxRecDepth 100000
set_option maxHeartbeats 4000000
set_option Elab.async false
set_option linter.all false
set_option maxRecDepth 100000
set_option maxHeartbeats 4000000
set_option Elab.async false
set_option linter.all false
set_option maxRecDepth 100000
set_option maxHeartbeats 4000000
set_option Elab.async false
set_option linter.all false
set_option maxRecDepth 100000
set_option maxHeartbeats 4000000
set_option Elab.async false
set_option linter.all false
set_option maxRecDepth 100000
set_option maxHeartbeats 4000000
set_option Elab.async false
set_option linter.all false
set_option maxRecDepth 100000
set_option maxHeartbeats 4000000
namespace LW
open PySem PySem.Spec PyProof.Rows L2 PD
def b_law_circuits_1 : Sn := (gIf (dNot (dAsB (dArg bAny (dCons (dLc (dItems (dVar 1)) (.nm 4) dYes (dAndV (dTwo oNe (dVar 4) (dVar 3)) (dArg m_law_within (dCons (dVar 4) (dCons (dVar 3) dNil)))) [4]) dNil)))) (gApp 2 (dVar 3)) gSkip)
def g_law_circuits : Sn := (gSeq (gSet (dLc (dItems (dArg m_law_parts_of (dCons (dTwo oIx (dVar 0) (dC (.int 0))) dNil))) (.nm 3) (dNot (dAsB (dArg m_law_free (dCons (dVar 3) (dCons (dTwo oIx (dVar 0) (dC (.int 1))) dNil))))) (dVar 3) [3]) (.nm 1)) (gSeq (gOwn (dLst dNil) 2) (gSeq (gFor (dItems (dVar 1)) (.nm 3) b_law_circuits_1) (gFrz 2 (gRet (dVar 2))))))
def m_law_circuits : List PyData → R PyData := runD 5 1 g_law_circuits
end LW
set_option Elab.async false
set_option linter.all false
set_option maxRecDepth 100000
set_option maxHeartbeats 4000000
namespace LW
open PySem PySem.Spec PyProof.Rows L2 PD
def b_law_beside_1 : Sn := (gSeq (gSet (dTwo oAdd (dArg bList (dCons (dVar 8) dNil)) (dLc (dItems (dVar 9)) (.nm 12) dYes (dTwo oAdd (dVar 12) (dVar 3)) [12])) (.nm 10)) (gApp 7 (dArg bTuple (dCons (dArg bSorted (dCons (dLc (dItems (dVar 10)) (.nm 12) dYes (dTwo oIx (dTwo oIx (dVar 6) (dVar 12)) (dC (.int 1))) [12]) dNil)) dNil))))
def b_law_beside_2 : Sn := (gFor (dItems (dVar 2)) (.nm 9) b_law_beside_1)
def g_law_beside : Sn := (gSeq (gSet (dArg m_law_draws (dCons (dVar 0) (dCons (dTwo oAdd (dVar 4) (dC (.int 1))) dNil))) (.nm 5)) (gSeq (gSet (dArg bSorted (dCons (dLc (dRng1 (dCons (dVar 4) dNil)) (.nm 11) dYes (dTup (dCons (dArg bInt (dCons (dTwo oIx (dVar 5) (dVar 11)) dNil)) (dCons (dVar 11) dNil))) [11]) dNil)) (.nm 6)) (gSeq (gOwn (dLst dNil) 7) (gSeq (gFor (dItems (dVar 1)) (.nm 8) b_law_beside_2) (gFrz 7 (gRet (dTup (dCons (dVar 4) (dCons (dArg bTuple (dCons (dArg bSorted (dCons (dVar 7) dNil)) dNil)) dNil)))))))))
def m_law_beside : List PyData → R PyData := runD 13 5 g_law_beside
def g_law_offer_k36 : Sn := (gSeq (gSet (dArg m_law_draws (dCons (dArg m_law_cell (dCons (dVar 0) (dCons (dC (.int 0)) dNil))) (dCons (dC (.int 4)) dNil))) (.nm 1)) (gSeq (gIf (dAsB (dTwo oEq (dTwo oMod (dArg bInt (dCons (dTwo oIx (dVar 1) (dC (.int 0))) dNil)) (dC (.int 2))) (dC (.int 0)))) (gSeq (gSet (dTwo oIx (dTup (dCons (dC (.int 5)) (dCons (dC (.int 4)) (dCons (dC (.int 3)) (dCons (dC (.int 4)) (dCons (dC (.int 2)) (dCons (dC (.int 0)) (dCons (dC (.int 1)) dNil)))))))) (dTwo oMod (dArg bInt (dCons (dTwo oIx (dVar 1) (dC (.int 1))) dNil)) (dC (.int 7)))) (.nm 2)) (gRet (dTup (dCons (dVar 2) (dCons (dArg m_law_smooth_lots (dCons (dArg m_law_cell (dCons (dVar 0) (dCons (dC (.int 1)) dNil))) (dCons (dVar 2) dNil))) dNil))))) gSkip) (gSeq (gSet (dTwo oIx (dTup (dCons (dC (.int 3)) (dCons (dC (.int 2)) (dCons (dC (.int 3)) (dCons (dC (.int 1)) dNil))))) (dTwo oMod (dArg bInt (dCons (dTwo oIx (dVar 1) (dC (.int 2))) dNil)) (dC (.int 4)))) (.nm 3)) (gSeq (gSet (dTwo oIx (dTup (dCons (dC (.int 3)) (dCons (dC (.int 2)) (dCons (dC (.int 1)) (dCons (dC (.int 3)) dNil))))) (dTwo oMod (dArg bInt (dCons (dTwo oIx (dVar 1) (dC (.int 3))) dNil)) (dC (.int 4)))) (.nm 4)) (gSeq (gSet (dArg m_law_smooth_lots (dCons (dArg m_law_cell (dCons (dVar 0) (dCons (dC (.int 1)) dNil))) (dCons (dVar 3) dNil))) (.nm 5)) (gSeq (gSet (dArg m_law_smooth_lots (dCons (dArg m_law_cell (dCons (dVar 0) (dCons (dC (.int 2)) dNil))) (dCons (dVar 4) dNil))) (.nm 6)) (gRet (dArg m_law_beside (dCons (dArg m_law_cell (dCons (dVar 0) (dCons (dC (.int 3)) dNil))) (dCons (dVar 5) (dCons (dVar 6) (dCons (dVar 3) (dCons (dTwo oAdd (dVar 3) (dVar 4)) dNil)))))))))))))
def m_law_offer_k36 : List PyData → R PyData := runD 7 1 g_law_offer_k36
def g_things_with : Sn := (gSeq (gSet (dLc2 (dItems (dVar 1)) (.nm 3) (dAsB (dTwo oIn (dVar 0) (dVar 3))) (dItems (dVar 3)) (.nm 4) dYes (dVar 4) [3, 4] [4]) (.nm 2)) (gRet (dArg bTuple (dCons (dOne bSortSetW (dTwo oAdd (dVar 2) (dLst (dCons (dVar 0) dNil)))) dNil))))
def m_things_with : List PyData → R PyData := runD 5 2 g_things_with
def g_pieces : Sn := (gSeq (gSet (dArg m_circuits (dCons (dVar 0) dNil)) (.nm 1)) (gRet (dArg bTuple (dCons (dSortSc (dRng1 (dCons (dTwo oIx (dVar 0) (dC (.int 0))) dNil)) (.nm 2) dYes (dArg m_things_with (dCons (dVar 2) (dCons (dVar 1) dNil))) [2]) dNil))))
def m_pieces : List PyData → R PyData := runD 3 1 g_pieces
def b_law_are_pieces_1 : Sn := (gSeq (gIf (dOr (dNot (dAsB (dArg m_law_is_set (dCons (dTwo oIx (dVar 0) (dVar 3)) (dCons (dTwo oIx (dVar 1) (dC (.int 0))) dNil))))) (dAsB (dTwo oEq (dArg bLen (dCons (dTwo oIx (dVar 0) (dVar 3)) dNil)) (dC (.int 0))))) (gRet (dC (.bool false))) gSkip) (gIf (dAnd (dAsB (dTwo oGt (dVar 3) (dC (.int 0)))) (dAsB (dTwo oLeT (dTwo oIx (dVar 0) (dVar 3)) (dTwo oIx (dVar 0) (dTwo oSub (dVar 3) (dC (.int 1))))))) (gRet (dC (.bool false))) gSkip))
def b_law_are_pieces_2 : Sn := (gSeq (gSet (dArg bAny (dCons (dLc (dItems (dVar 0)) (.nm 7) dYes (dAndV (dTwo oIn (dVar 4) (dVar 7)) (dTwo oIn (dVar 5) (dVar 7))) [7]) dNil)) (.nm 6)) (gIf (dAsB (dTwo oNe (dVar 6) (dArg bAny (dCons (dLc (dItems (dVar 2)) (.nm 8) dYes (dAndV (dTwo oIn (dVar 4) (dVar 8)) (dTwo oIn (dVar 5) (dVar 8))) [8]) dNil)))) (gRet (dC (.bool false))) gSkip))
def b_law_are_pieces_3 : Sn := (gSeq (gIf (dAsB (dTwo oNe (dArg bLen (dCons (dLc (dItems (dVar 0)) (.nm 7) (dAsB (dTwo oIn (dVar 4) (dVar 7))) (dVar 7) [7]) dNil)) (dC (.int 1)))) (gRet (dC (.bool false))) gSkip) (gFor (dRng1 (dCons (dVar 4) dNil)) (.nm 5) b_law_are_pieces_2))
def g_law_are_pieces : Sn := (gSeq (gIf (dNot (dAsB (dOne (oIsi "tuple") (dVar 0)))) (gRet (dC (.bool false))) gSkip) (gSeq (gFor (dRng1 (dCons (dArg bLen (dCons (dVar 0) dNil)) dNil)) (.nm 3) b_law_are_pieces_1) (gSeq (gFor (dRng1 (dCons (dTwo oIx (dVar 1) (dC (.int 0))) dNil)) (.nm 4) b_law_are_pieces_3) (gRet (dC (.bool true))))))
def m_law_are_pieces : List PyData → R PyData := runD 9 3 g_law_are_pieces
def g_law_part : Sn := (gRet (dArg bTuple (dCons (dLc (dRng1 (dCons (dArg bLen (dCons (dVar 1) dNil)) dNil)) (.nm 2) (dAsB (dTwo oIn (dTwo oIx (dVar 1) (dVar 2)) (dVar 0))) (dVar 2) [2]) dNil)))
def m_law_part : List PyData → R PyData := runD 3 2 g_law_part
def g_piece_offer : Sn := (gSeq (gSet (dDcK (dEnum (dCons (dVar 1) dNil)) (.tp [(.nm 4), (.nm 5)]) dYes (dVar 5) (dVar 4) [4, 5]) (.nm 2)) (gRetS2 3 (dArg bLen (dCons (dVar 1) dNil)) (dSortSc (dItems (dTwo oIx (dVar 0) (dC (.int 1)))) (.nm 6) dYes (dArg bTuple (dCons (dLc (dItems (dVar 6)) (.nm 5) (dAsB (dTwo oInK (dVar 5) (dVar 2))) (dTwo oDix (dVar 2) (dVar 5)) [5]) dNil)) [6])))
def m_piece_offer : List PyData → R PyData := runD 7 2 g_piece_offer
def b_law_tells_k36_1 : Sn := (gIf (dThawB (dAsB (dTwo oNotIn (dArg m_law_part (dCons (dVar 5) (dCons (dVar 3) dNil))) (dVar 4)))) (gApp 4 (dArg m_law_part (dCons (dVar 5) (dCons (dVar 3) dNil)))) gSkip)
def b_law_tells_k36_2 : Sn := (gSeq (gOwn (dLst dNil) 4) (gSeq (gFor (dItems (dTwo oIx (dVar 0) (dC (.int 1)))) (.nm 5) b_law_tells_k36_1) (gFrz 4 (gSeq (gIf (dNot (dAsB (dArg m_law_is_offer (dCons (dArg m_piece_offer (dCons (dVar 0) (dCons (dVar 3) dNil))) (dCons (dArg bLen (dCons (dVar 3) dNil)) (dCons (dArg bTuple (dCons (dArg bSorted (dCons (dVar 4) dNil)) dNil)) dNil)))))) (gRet (dC (.bool false))) gSkip) (gSet (dTwo oMul (dVar 2) (dArg bLen (dCons (dVar 4) dNil))) (.nm 2))))))
def g_law_tells_k36 : Sn := (gSeq (gSet (dArg m_pieces (dCons (dVar 0) dNil)) (.nm 1)) (gSeq (gIf (dNot (dAsB (dArg m_law_are_pieces (dCons (dVar 1) (dCons (dVar 0) (dCons (dArg m_law_circuits (dCons (dVar 0) dNil)) dNil)))))) (gRet (dC (.bool false))) gSkip) (gSeq (gSet (dC (.int 1)) (.nm 2)) (gSeq (gFor (dItems (dVar 1)) (.nm 3) b_law_tells_k36_2) (gRet (dTwo oEq (dVar 2) (dArg bLen (dCons (dTwo oIx (dVar 0) (dC (.int 1))) dNil))))))))
def m_law_tells_k36 : List PyData → R PyData := runD 6 1 g_law_tells_k36
def g_law_k36 : Sn := (gSeq (gSet (dArg m_law_offer_k36 (dCons (dVar 0) dNil)) (.nm 1)) (gRet (dAndV (dArg m_law_tells_k36 (dCons (dVar 1) dNil)) (dArg m_law_tells_k36 (dCons (dVar 1) dNil)))))
def m_law_k36 : List PyData → R PyData := runD 2 1 g_law_k36
end LW
set_option Elab.async false
set_option linter.all false
set_option maxRecDepth 100000
set_option maxHeartbeats 4000000
namespace LW
open PySem PySem.Spec PyProof.Rows L2 PD
section
variable {P : Program} {w : World} {K : PySem.W.Frag} {mg : Str → Option Value} {base : Heap} {Tb : List Addr}
def topS (i : Nat) : Stmt := PySem.Challenge.pw_takersrest_k36_whole_pieces.main.body.getD i (.Pass ⟨0, 0, 0, 0⟩)
abbrev s_law_draws : Stmt := topS 13
theorem sc_law_draws : FnScope ["cell", "count", "rest", "digits", "seed", "draws", "k", "mixed"] ["cell", "count"] (defScope s_law_draws) := ⟨rfl, rfl, rfl, by decide +kernel, rfl, by decide +kernel, by decide +kernel⟩
theorem ok_law_draws {a : Addr} {fd : FuncData} (F : Fun K "_law_draws" "_law_draws" s_law_draws a fd) (hg : mg "_law_draws" = some (.ref a)) (hb : Binds K fd ["cell", "count"] []) (B : Bi mg) : FnD P w K mg base Tb "_law_draws" 1 m_law_draws := ⟨a, fd, ["cell", "count"], fn_okD F sc_law_draws fun cdv A outer s H E hr => 
  (fs_cons (fs_set (i := 2) sc_law_draws.nd rfl (.inl rfl) (e_abs B (fa_cons (e_int B (fa_cons (fd_var 0) fa_nil)) fa_nil))) (fs_cons (fs_set (i := 3) sc_law_draws.nd rfl (.inl rfl) (e_ge (fd_var 2) (fd_pow fd_int fd_int))) (fs_cons (fs_set (i := 4) sc_law_draws.nd rfl (.inl rfl) (fd_var 2)) (fs_cons (fs_own (i := 5) sc_law_draws.nd rfl (.inl rfl) (fn_lst fa_nil)) (fs_cons (fs_for (passes_of rfl) rfl (fi_rng1 (by rfl) B.range (fa_cons (fd_var 1) fa_nil)) (fg_nm (i := 6) sc_law_draws.nd rfl (.inl rfl)) (fs_one (fs_if (PW.pt (fw_and (ft_val (fd_var 3)) (fw_and1 (t_gt (fd_var 2) fd_int)))) (fs_cons (fs_app (i := 5) rfl (.inl rfl) (by decide) (by decide) (fd_mod (e_int B (fa_cons (fd_var 2) fa_nil)) fd_int) rfl rfl rfl rfl rfl rfl) (fs_one (fs_set (i := 2) sc_law_draws.nd rfl (.inl rfl) (fd_div (fd_var 2) fd_int)))) (fs_cons (fs_set (i := 7) sc_law_draws.nd rfl (.inl rfl) (fd_mod (e_int B (fa_cons (fd_add (fd_add (fd_mul (fd_var 4) fd_int) (fd_mul (fd_add (fd_var 6) fd_int) fd_int)) fd_int) fa_nil)) fd_int)) (fs_cons (fs_set (i := 7) sc_law_draws.nd rfl (.inl rfl) (fd_mod (e_int B (fa_cons (fd_add (fd_mul (fd_var 7) (fd_var 7)) (fd_mul fd_int (fd_add (fd_var 6) fd_int))) fa_nil)) fd_int)) (fs_one (fs_app (i := 5) rfl (.inl rfl) (by decide) (by decide) (fd_mod (e_int B (fa_cons (fd_div (fd_var 7) fd_int) fa_nil)) fd_int) rfl rfl rfl rfl rfl rfl))))))) (fs_frz 5 (fs_one (fs_ret (fd_var 5))))))))), hg, F.kp, hb⟩
abbrev s_law_parts_of : Stmt := topS 17
theorem sc_law_parts_of : FnScope ["size", "rows", "thing", "row"] ["size"] (defScope s_law_parts_of) := ⟨rfl, rfl, rfl, by decide +kernel, rfl, by decide +kernel, by decide +kernel⟩
theorem ok_law_parts_of {a : Addr} {fd : FuncData} (F : Fun K "_law_parts_of" "_law_parts_of" s_law_parts_of a fd) (hg : mg "_law_parts_of" = some (.ref a)) (hb : Binds K fd ["size"] []) (B : Bi mg) : FnD P w K mg base Tb "_law_parts_of" 1 m_law_parts_of := ⟨a, fd, ["size"], fn_okD F sc_law_parts_of fun cdv A outer s H E hr => 
  (fs_cons (fs_set (i := 1) sc_law_parts_of.nd rfl (.inl rfl) (fd_lst (fa_cons (fd_tup fa_nil) fa_nil))) (fs_cons (fs_for (passes_of rfl) rfl (fi_rng1 (by rfl) B.range (fa_cons (fd_var 0) fa_nil)) (fg_nm (i := 2) sc_law_parts_of.nd rfl (.inr rfl)) (fs_one (fs_set (i := 1) sc_law_parts_of.nd rfl (.inl rfl) (fd_add (fd_var 1) (fd_lc rfl sc_law_parts_of.nd (fi_seq (fd_var 1)) (own := [("row", 3)]) (blkOk_by (by rfl)) (fun _ _ _ _ _ => (fg_nm (i := 3) sc_law_parts_of.nd rfl (.inl rfl))) (fun _ _ _ _ _ => ft_yes) (fun _ _ _ _ _ => (fd_add (fd_var 3) (fd_tup (fa_cons (fd_var 2) fa_nil))))))))) (fs_one (fs_ret (e_sorted B hr (fa_cons (fd_var 1) fa_nil)))))), hg, F.kp, hb⟩
abbrev s_law_rest : Stmt := topS 20
theorem sc_law_rest : FnScope ["row", "size", "thing"] ["row", "size"] (defScope s_law_rest) := ⟨rfl, rfl, rfl, by decide +kernel, rfl, by decide +kernel, by decide +kernel⟩
theorem ok_law_rest {a : Addr} {fd : FuncData} (F : Fun K "_law_rest" "_law_rest" s_law_rest a fd) (hg : mg "_law_rest" = some (.ref a)) (hb : Binds K fd ["row", "size"] []) (B : Bi mg) : FnD P w K mg base Tb "_law_rest" 1 m_law_rest := ⟨a, fd, ["row", "size"], fn_okD F sc_law_rest fun cdv A outer s H E hr => 
  (fs_one (fs_ret (e_tuple B (fa_cons (fd_lc rfl sc_law_rest.nd (fi_rng1 (by rfl) B.range (fa_cons (fd_var 1) fa_nil)) (own := [("thing", 2)]) (blkOk_by (by rfl)) (fun _ _ _ _ _ => (fg_nm (i := 2) sc_law_rest.nd rfl (.inl rfl))) (fun _ _ _ _ _ => (ft_one (t_notin hr (fd_var 2) (fd_var 0)))) (fun _ _ _ _ _ => (fd_var 2))) fa_nil)))), hg, F.kp, hb⟩
abbrev s_law_count : Stmt := topS 19
theorem sc_law_count : FnScope ["row", "classes", "c", "thing"] ["row", "classes", "c"] (defScope s_law_count) := ⟨rfl, rfl, rfl, by decide +kernel, rfl, by decide +kernel, by decide +kernel⟩
theorem ok_law_count {a : Addr} {fd : FuncData} (F : Fun K "_law_count" "_law_count" s_law_count a fd) (hg : mg "_law_count" = some (.ref a)) (hb : Binds K fd ["row", "classes", "c"] []) (B : Bi mg) : FnD P w K mg base Tb "_law_count" 1 m_law_count := ⟨a, fd, ["row", "classes", "c"], fn_okD F sc_law_count fun cdv A outer s H E hr => 
  (fs_one (fs_ret (e_len B (fa_cons (fd_lc rfl sc_law_count.nd (fi_seq (fd_var 0)) (own := [("thing", 3)]) (blkOk_by (by rfl)) (fun _ _ _ _ _ => (fg_nm (i := 3) sc_law_count.nd rfl (.inl rfl))) (fun _ _ _ _ _ => (ft_one (t_eq hr (e_ix (fd_var 1) (fd_var 3)) (fd_var 2)))) (fun _ _ _ _ _ => (fd_var 3))) fa_nil)))), hg, F.kp, hb⟩
abbrev s_law_smooth_lots : Stmt := topS 21
theorem sc_law_smooth_lots : FnScope ["cell", "size", "draws", "classes", "bounds", "rows", "row", "count", "lots", "thing", "c"] ["cell", "size"] (defScope s_law_smooth_lots) := ⟨rfl, rfl, rfl, by decide +kernel, rfl, by decide +kernel, by decide +kernel⟩
theorem ok_law_smooth_lots {a : Addr} {fd : FuncData} (F : Fun K "_law_smooth_lots" "_law_smooth_lots" s_law_smooth_lots a fd) (D_law_draws : FnD P w K mg base Tb "_law_draws" 1 m_law_draws) (D_law_parts_of : FnD P w K mg base Tb "_law_parts_of" 1 m_law_parts_of) (D_law_rest : FnD P w K mg base Tb "_law_rest" 1 m_law_rest) (D_law_count : FnD P w K mg base Tb "_law_count" 1 m_law_count) (hg : mg "_law_smooth_lots" = some (.ref a)) (hb : Binds K fd ["cell", "size"] []) (B : Bi mg) : FnD P w K mg base Tb "_law_smooth_lots" 2 m_law_smooth_lots := ⟨a, fd, ["cell", "size"], fn_okD F sc_law_smooth_lots fun cdv A outer s H E hr => 
  (fs_cons (fs_set (i := 2) sc_law_smooth_lots.nd rfl (.inr rfl) (e_call D_law_draws (fun σ => lets_of (L2N.takes_of rfl rfl rfl rfl) σ) hr (fa_cons (fd_var 0) (fa_cons (fd_add fd_int (fd_var 1)) fa_nil)))) (fs_cons (fs_set (i := 3) sc_law_smooth_lots.nd rfl (.inr rfl) (fd_lc rfl sc_law_smooth_lots.nd (fi_rng1 (by rfl) B.range (fa_cons (fd_var 1) fa_nil)) (own := [("thing", 9)]) (blkOk_by (by rfl)) (fun _ _ _ _ _ => (fg_nm (i := 9) sc_law_smooth_lots.nd rfl (.inl rfl))) (fun _ _ _ _ _ => ft_yes) (fun _ _ _ _ _ => (fd_mod (e_int B (fa_cons (e_ix (fd_var 2) (fd_add fd_int (fd_var 9))) fa_nil)) fd_int)))) (fs_cons (fs_set (i := 4) sc_law_smooth_lots.nd rfl (.inr rfl) (fd_lst (fa_cons (fd_add fd_int (fd_mod (e_int B (fa_cons (e_ix (fd_var 2) fd_int) fa_nil)) fd_int)) (fa_cons (fd_add fd_int (fd_mod (fd_div (e_int B (fa_cons (e_ix (fd_var 2) fd_int) fa_nil)) fd_int) fd_int)) (fa_cons (fd_mod (fd_div (e_int B (fa_cons (e_ix (fd_var 2) fd_int) fa_nil)) fd_int) fd_int) fa_nil))))) (fs_cons (fs_own (i := 5) sc_law_smooth_lots.nd rfl (.inl rfl) (fn_lst fa_nil)) (fs_cons (fs_for (passes_of rfl) rfl (fi_seq (e_call D_law_parts_of (fun σ => lets_of (L2N.takes_of rfl rfl rfl rfl) σ) hr (fa_cons (fd_var 1) fa_nil))) (fg_nm (i := 6) sc_law_smooth_lots.nd rfl (.inr rfl)) (fs_one (fs_if (ft_val (e_all B (fa_cons (fd_lc rfl sc_law_smooth_lots.nd (fi_rng1 (by rfl) B.range (fa_cons fd_int fa_nil)) (own := [("c", 10)]) (blkOk_by (by rfl)) (fun _ _ _ _ _ => (fg_nm (i := 10) sc_law_smooth_lots.nd rfl (.inl rfl))) (fun _ _ _ _ _ => ft_yes) (fun _ _ _ _ _ => (e_le (e_call D_law_count (fun σ => lets0 σ) hr (fa_cons (fd_var 6) (fa_cons (fd_var 3) (fa_cons (fd_var 10) fa_nil)))) (e_ix (fd_var 4) (fd_var 10))))) fa_nil))) (fs_one (fs_app (i := 5) rfl (.inl rfl) (by decide) (by decide) (fd_var 6) rfl rfl rfl rfl rfl rfl)) fs_nil))) (fs_frz 5 (fs_cons (fs_set (i := 7) sc_law_smooth_lots.nd rfl (.inr rfl) (e_min2 B (fa_cons (e_max B (fa_cons (fd_lc rfl sc_law_smooth_lots.nd (fi_seq (fd_var 5)) (own := [("row", 6)]) (blkOk_by (by rfl)) (fun _ _ _ _ _ => (fg_nm (i := 6) sc_law_smooth_lots.nd rfl (.inl rfl))) (fun _ _ _ _ _ => ft_yes) (fun _ _ _ _ _ => (e_len B (fa_cons (fd_var 6) fa_nil)))) fa_nil)) (fa_cons (e_ix (fd_tup (fa_cons fd_int (fa_cons fd_int (fa_cons fd_int (fa_cons fd_int (fa_cons fd_int (fa_cons fd_int (fa_cons fd_int (fa_cons fd_int fa_nil))))))))) (fd_mod (e_int B (fa_cons (e_ix (fd_var 2) fd_int) fa_nil)) fd_int)) fa_nil)))) (fs_cons (fs_setLc (i := 8) rfl sc_law_smooth_lots.nd rfl rfl (by rfl) (fi_seq (fd_var 5)) (own := [("row", 6)]) (blkOk_by (by rfl)) (fun _ _ _ _ _ => (fg_nm (i := 6) sc_law_smooth_lots.nd rfl (.inl rfl))) (fun _ _ _ _ _ => (ft_one (t_eq hr (e_len B (fa_cons (fd_var 6) fa_nil)) (fd_var 7)))) (fun _ _ _ _ _ => (fd_var 6))) (fs_cons (fs_if (t_eq hr (fd_mod (e_int B (fa_cons (e_ix (fd_var 2) fd_int) fa_nil)) fd_int) fd_int) (fs_one (fs_set (i := 8) sc_law_smooth_lots.nd rfl (.inl rfl) (e_sorted B hr (fa_cons (fd_lc rfl sc_law_smooth_lots.nd (fi_seq (fd_var 8)) (own := [("row", 6)]) (blkOk_by (by rfl)) (fun _ _ _ _ _ => (fg_nm (i := 6) sc_law_smooth_lots.nd rfl (.inl rfl))) (fun _ _ _ _ _ => ft_yes) (fun _ _ _ _ _ => (e_call D_law_rest (fun σ => lets0 σ) hr (fa_cons (fd_var 6) (fa_cons (fd_var 1) fa_nil))))) fa_nil)))) fs_nil) (fs_one (fs_ret (e_tuple B (fa_cons (fd_var 8) fa_nil))))))))))))), hg, F.kp, hb⟩
abbrev s_law_beside : Stmt := topS 24
theorem sc_law_beside : FnScope ["cell", "first", "second", "low", "size", "draws", "order", "lots", "lot", "other", "row", "k", "thing"] ["cell", "first", "second", "low", "size"] (defScope s_law_beside) := ⟨rfl, rfl, rfl, by decide +kernel, rfl, by decide +kernel, by decide +kernel⟩
theorem ok_law_beside {a : Addr} {fd : FuncData} (F : Fun K "_law_beside" "_law_beside" s_law_beside a fd) (D_law_draws : FnD P w K mg base Tb "_law_draws" 1 m_law_draws) (hg : mg "_law_beside" = some (.ref a)) (hb : Binds K fd ["cell", "first", "second", "low", "size"] []) (B : Bi mg) : FnD P w K mg base Tb "_law_beside" 2 m_law_beside := ⟨a, fd, ["cell", "first", "second", "low", "size"], fn_okD F sc_law_beside fun cdv A outer s H E hr => 
  (fs_cons (fs_set (i := 5) sc_law_beside.nd rfl (.inr rfl) (e_call D_law_draws (fun σ => lets_of (L2N.takes_of rfl rfl rfl rfl) σ) hr (fa_cons (fd_var 0) (fa_cons (fd_add (fd_var 4) fd_int) fa_nil)))) (fs_cons (fs_set (i := 6) sc_law_beside.nd rfl (.inr rfl) (e_sorted B hr (fa_cons (fd_lc rfl sc_law_beside.nd (fi_rng1 (by rfl) B.range (fa_cons (fd_var 4) fa_nil)) (own := [("k", 11)]) (blkOk_by (by rfl)) (fun _ _ _ _ _ => (fg_nm (i := 11) sc_law_beside.nd rfl (.inl rfl))) (fun _ _ _ _ _ => ft_yes) (fun _ _ _ _ _ => (fd_tup (fa_cons (e_int B (fa_cons (e_ix (fd_var 5) (fd_var 11)) fa_nil)) (fa_cons (fd_var 11) fa_nil))))) fa_nil))) (fs_cons (fs_own (i := 7) sc_law_beside.nd rfl (.inl rfl) (fn_lst fa_nil)) (fs_cons (fs_for (passes_of rfl) rfl (fi_seq (fd_var 1)) (fg_nm (i := 8) sc_law_beside.nd rfl (.inl rfl)) (fs_one (fs_for (passes_of rfl) rfl (fi_seq (fd_var 2)) (fg_nm (i := 9) sc_law_beside.nd rfl (.inl rfl)) (fs_cons (fs_set (i := 10) sc_law_beside.nd rfl (.inl rfl) (fd_add (e_list B (fa_cons (fd_var 8) fa_nil)) (fd_lc rfl sc_law_beside.nd (fi_seq (fd_var 9)) (own := [("thing", 12)]) (blkOk_by (by rfl)) (fun _ _ _ _ _ => (fg_nm (i := 12) sc_law_beside.nd rfl (.inl rfl))) (fun _ _ _ _ _ => ft_yes) (fun _ _ _ _ _ => (fd_add (fd_var 12) (fd_var 3)))))) (fs_one (fs_app (i := 7) rfl (.inl rfl) (by decide) (by decide) (e_tuple B (fa_cons (e_sorted B hr (fa_cons (fd_lc rfl sc_law_beside.nd (fi_seq (fd_var 10)) (own := [("thing", 12)]) (blkOk_by (by rfl)) (fun _ _ _ _ _ => (fg_nm (i := 12) sc_law_beside.nd rfl (.inl rfl))) (fun _ _ _ _ _ => ft_yes) (fun _ _ _ _ _ => (e_ix (e_ix (fd_var 6) (fd_var 12)) fd_int))) fa_nil)) fa_nil)) rfl rfl rfl rfl rfl rfl)))))) (fs_frz 7 (fs_one (fs_ret (fd_tup (fa_cons (fd_var 4) (fa_cons (e_tuple B (fa_cons (e_sorted B hr (fa_cons (fd_var 7) fa_nil)) fa_nil)) fa_nil)))))))))), hg, F.kp, hb⟩
abbrev s_law_cell : Stmt := topS 12
theorem sc_law_cell : FnScope ["script", "k"] ["script", "k"] (defScope s_law_cell) := ⟨rfl, rfl, rfl, by decide +kernel, rfl, by decide +kernel, by decide +kernel⟩
theorem ok_law_cell {a : Addr} {fd : FuncData} (F : Fun K "_law_cell" "_law_cell" s_law_cell a fd) (hg : mg "_law_cell" = some (.ref a)) (hb : Binds K fd ["script", "k"] []) (B : Bi mg) : FnD P w K mg base Tb "_law_cell" 1 m_law_cell := ⟨a, fd, ["script", "k"], fn_okD F sc_law_cell fun cdv A outer s H E hr => 
  (fs_cons (fs_if (t_lt (fd_var 1) (e_len B (fa_cons (fd_var 0) fa_nil))) (fs_one (fs_ret (e_ix (fd_var 0) (fd_var 1)))) fs_nil) (fs_one (fs_ret (fd_add (fd_mul fd_int (fd_var 1)) fd_int)))), hg, F.kp, hb⟩
abbrev s_law_offer : Stmt := topS 25
theorem sc_law_offer : FnScope ["script", "head", "size", "low", "high", "first", "second"] ["script"] (defScope s_law_offer) := ⟨rfl, rfl, rfl, by decide +kernel, rfl, by decide +kernel, by decide +kernel⟩
theorem ok_law_offer {a : Addr} {fd : FuncData} (F : Fun K "_law_offer" "_law_offer" s_law_offer a fd) (D_law_draws : FnD P w K mg base Tb "_law_draws" 1 m_law_draws) (D_law_smooth_lots : FnD P w K mg base Tb "_law_smooth_lots" 2 m_law_smooth_lots) (D_law_beside : FnD P w K mg base Tb "_law_beside" 2 m_law_beside) (D_law_cell : FnD P w K mg base Tb "_law_cell" 1 m_law_cell) (hg : mg "_law_offer" = some (.ref a)) (hb : Binds K fd ["script"] []) (B : Bi mg) : FnD P w K mg base Tb "_law_offer" 3 m_law_offer_k36 := ⟨a, fd, ["script"], fn_okD F sc_law_offer fun cdv A outer s H E hr => 
  (fs_cons (fs_set (i := 1) sc_law_offer.nd rfl (.inl rfl) (e_call D_law_draws (fun σ => lets_of (L2N.takes_of rfl rfl rfl rfl) σ) hr (fa_cons (e_call D_law_cell (fun σ => lets_of (L2N.takes_of rfl rfl rfl rfl) σ) hr (fa_cons (fd_var 0) (fa_cons fd_int fa_nil))) (fa_cons fd_int fa_nil)))) (fs_cons (fs_if (t_eq hr (fd_mod (e_int B (fa_cons (e_ix (fd_var 1) fd_int) fa_nil)) fd_int) fd_int) (fs_cons (fs_set (i := 2) sc_law_offer.nd rfl (.inl rfl) (e_ix (fd_tup (fa_cons fd_int (fa_cons fd_int (fa_cons fd_int (fa_cons fd_int (fa_cons fd_int (fa_cons fd_int (fa_cons fd_int fa_nil)))))))) (fd_mod (e_int B (fa_cons (e_ix (fd_var 1) fd_int) fa_nil)) fd_int))) (fs_one (fs_ret (fd_tup (fa_cons (fd_var 2) (fa_cons (e_call D_law_smooth_lots (fun σ => lets_of (L2N.takes_of rfl rfl rfl rfl) σ) hr (fa_cons (e_call D_law_cell (fun σ => lets_of (L2N.takes_of rfl rfl rfl rfl) σ) hr (fa_cons (fd_var 0) (fa_cons fd_int fa_nil))) (fa_cons (fd_var 2) fa_nil))) fa_nil)))))) fs_nil) (fs_cons (fs_set (i := 3) sc_law_offer.nd rfl (.inl rfl) (e_ix (fd_tup (fa_cons fd_int (fa_cons fd_int (fa_cons fd_int (fa_cons fd_int fa_nil))))) (fd_mod (e_int B (fa_cons (e_ix (fd_var 1) fd_int) fa_nil)) fd_int))) (fs_cons (fs_set (i := 4) sc_law_offer.nd rfl (.inl rfl) (e_ix (fd_tup (fa_cons fd_int (fa_cons fd_int (fa_cons fd_int (fa_cons fd_int fa_nil))))) (fd_mod (e_int B (fa_cons (e_ix (fd_var 1) fd_int) fa_nil)) fd_int))) (fs_cons (fs_set (i := 5) sc_law_offer.nd rfl (.inl rfl) (e_call D_law_smooth_lots (fun σ => lets_of (L2N.takes_of rfl rfl rfl rfl) σ) hr (fa_cons (e_call D_law_cell (fun σ => lets_of (L2N.takes_of rfl rfl rfl rfl) σ) hr (fa_cons (fd_var 0) (fa_cons fd_int fa_nil))) (fa_cons (fd_var 3) fa_nil)))) (fs_cons (fs_set (i := 6) sc_law_offer.nd rfl (.inl rfl) (e_call D_law_smooth_lots (fun σ => lets_of (L2N.takes_of rfl rfl rfl rfl) σ) hr (fa_cons (e_call D_law_cell (fun σ => lets_of (L2N.takes_of rfl rfl rfl rfl) σ) hr (fa_cons (fd_var 0) (fa_cons fd_int fa_nil))) (fa_cons (fd_var 4) fa_nil)))) (fs_one (fs_ret (e_call D_law_beside (fun σ => lets_of (L2N.takes_of rfl rfl rfl rfl) σ) hr (fa_cons (e_call D_law_cell (fun σ => lets_of (L2N.takes_of rfl rfl rfl rfl) σ) hr (fa_cons (fd_var 0) (fa_cons fd_int fa_nil))) (fa_cons (fd_var 5) (fa_cons (fd_var 6) (fa_cons (fd_var 3) (fa_cons (fd_add (fd_var 3) (fd_var 4)) fa_nil)))))))))))))), hg, F.kp, hb⟩
abbrev s_leave_out : Stmt := topS 1
theorem sc_leave_out : FnScope ["things", "out", "thing"] ["things", "out"] (defScope s_leave_out) := ⟨rfl, rfl, rfl, by decide +kernel, rfl, by decide +kernel, by decide +kernel⟩
theorem ok_leave_out {a : Addr} {fd : FuncData} (F : Fun K "leave_out" "leave_out" s_leave_out a fd) (hg : mg "leave_out" = some (.ref a)) (hb : Binds K fd ["things", "out"] []) (B : Bi mg) : FnD P w K mg base Tb "leave_out" 1 m_leave_out := ⟨a, fd, ["things", "out"], fn_okD F sc_leave_out fun cdv A outer s H E hr => 
  (fs_one (fs_ret (e_tuple B (fa_cons (fd_lc rfl sc_leave_out.nd (fi_seq (fd_var 0)) (own := [("thing", 2)]) (blkOk_by (by rfl)) (fun _ _ _ _ _ => (fg_nm (i := 2) sc_leave_out.nd rfl (.inl rfl))) (fun _ _ _ _ _ => (ft_one (t_ne hr (fd_var 2) (fd_var 1)))) (fun _ _ _ _ _ => (fd_var 2))) fa_nil)))), hg, F.kp, hb⟩
abbrev s_fewer_by_one : Stmt := topS 2
theorem sc_fewer_by_one : FnScope ["things", "thing"] ["things"] (defScope s_fewer_by_one) := ⟨rfl, rfl, rfl, by decide +kernel, rfl, by decide +kernel, by decide +kernel⟩
theorem ok_fewer_by_one {a : Addr} {fd : FuncData} (F : Fun K "fewer_by_one" "fewer_by_one" s_fewer_by_one a fd) (D_leave_out : FnD P w K mg base Tb "leave_out" 1 m_leave_out) (hg : mg "fewer_by_one" = some (.ref a)) (hb : Binds K fd ["things"] []) (B : Bi mg) : FnD P w K mg base Tb "fewer_by_one" 2 m_fewer_by_one := ⟨a, fd, ["things"], fn_okD F sc_fewer_by_one fun cdv A outer s H E hr => 
  (fs_one (fs_ret (fd_lc rfl sc_fewer_by_one.nd (fi_seq (fd_var 0)) (own := [("thing", 1)]) (blkOk_by (by rfl)) (fun _ _ _ _ _ => (fg_nm (i := 1) sc_fewer_by_one.nd rfl (.inl rfl))) (fun _ _ _ _ _ => ft_yes) (fun _ _ _ _ _ => (e_call D_leave_out (fun σ => lets0 σ) hr (fa_cons (fd_var 0) (fa_cons (fd_var 1) fa_nil))))))), hg, F.kp, hb⟩
abbrev s_free_sets : Stmt := topS 4
theorem sc_free_sets : FnScope ["offer", "free", "todo", "things"] ["offer"] (defScope s_free_sets) := ⟨rfl, rfl, rfl, by decide +kernel, rfl, by decide +kernel, by decide +kernel⟩
theorem ok_free_sets {a : Addr} {fd : FuncData} (F : Fun K "free_sets" "free_sets" s_free_sets a fd) (D_fewer_by_one : FnD P w K mg base Tb "fewer_by_one" 2 m_fewer_by_one) (hg : mg "free_sets" = some (.ref a)) (hb : Binds K fd ["offer"] []) (B : Bi mg) : FnD P w K mg base Tb "free_sets" 3 m_free_sets := ⟨a, fd, ["offer"], fn_okD F sc_free_sets fun cdv A outer s H E hr => 
  (fs_cons (fs_newD (i := 1) sc_free_sets.nd rfl (.inl rfl)) (fs_cons (fs_own (i := 2) sc_free_sets.nd rfl (.inl rfl) (fn_list (by rfl) B.list (fa_cons (e_ix (fd_var 0) fd_int) fa_nil))) (fs_cons (fs_while (fuel := fun _ => 1000000) (passes_of rfl) (ft_thaw (t_gt (e_len B (fa_cons (fd_var 2) fa_nil)) fd_int)) (fs_cons (fs_setPop (i := 2) (j := 3) sc_free_sets.nd rfl (.inl rfl) rfl (.inl rfl) (by decide) (by decide) (by decide) rfl rfl rfl) (fs_one (fs_if (ft_thaw (t_notinT hr (fd_var 3) (fd_var 1))) (fs_cons (fs_putD (i := 1) hr rfl (.inl rfl) (by decide) (by decide) (fd_var 3)) (fs_one (fs_ext (i := 2) rfl (.inl rfl) (by decide) (by decide) (e_call D_fewer_by_one (fun σ => lets_of (L2N.takes_of rfl rfl rfl rfl) σ) hr (fa_cons (fd_var 3) fa_nil)) rfl rfl rfl rfl rfl rfl))) fs_nil)))) (fs_frzD 1 (fs_one (fs_ret (fd_var 1))))))), hg, F.kp, hb⟩
abbrev s_circuits_above : Stmt := topS 6
theorem sc_circuits_above : FnScope ["things", "size", "free", "least", "longer", "thing", "row", "part"] ["things", "size", "free"] (defScope s_circuits_above) := ⟨rfl, rfl, rfl, by decide +kernel, rfl, by decide +kernel, by decide +kernel⟩
theorem ok_circuits_above {a : Addr} {fd : FuncData} (F : Fun K "_circuits_above" "_circuits_above" s_circuits_above a fd) (D_fewer_by_one : FnD P w K mg base Tb "fewer_by_one" 2 m_fewer_by_one) (hg : mg "_circuits_above" = some (.ref a)) (hb : Binds K fd ["things", "size", "free"] []) (B : Bi mg) : FnD P w K mg base Tb "_circuits_above" 3 m_circuits_above := ⟨a, fd, ["things", "size", "free"], fn_okD F sc_circuits_above fun cdv A outer s H E hr => 
  (fs_cons (fs_set (i := 3) sc_circuits_above.nd rfl (.inl rfl) (fd_if (t_gt (e_len B (fa_cons (fd_var 0) fa_nil)) fd_int) (fd_add (e_ix (fd_var 0) (fd_neg fd_int)) fd_int) fd_int)) (fs_cons (fs_setLc (i := 4) rfl sc_circuits_above.nd rfl rfl (by rfl) (fi_rng2 (by rfl) B.range (fa_cons (fd_var 3) (fa_cons (fd_var 1) fa_nil))) (own := [("thing", 5)]) (blkOk_by (by rfl)) (fun _ _ _ _ _ => (fg_nm (i := 5) sc_circuits_above.nd rfl (.inl rfl))) (fun _ _ _ _ _ => ft_yes) (fun _ _ _ _ _ => (fd_add (fd_var 0) (fd_tup (fa_cons (fd_var 5) fa_nil))))) (fs_one (fs_ret (fd_lc rfl sc_circuits_above.nd (fi_seq (fd_var 4)) (own := [("row", 6)]) (blkOk_by (by rfl)) (fun _ _ _ _ _ => (fg_nm (i := 6) sc_circuits_above.nd rfl (.inl rfl))) (fun _ _ _ _ _ => (ft_one (PW.pt (fw_and (t_notinT hr (fd_var 6) (fd_var 2)) (fw_and1 (ft_val (e_all B (fa_cons (fd_lc rfl sc_circuits_above.nd (fi_seq (e_call D_fewer_by_one (fun σ => lets0 σ) hr (fa_cons (fd_var 6) fa_nil))) (own := [("part", 7)]) (blkOk_by (by rfl)) (fun _ _ _ _ _ => (fg_nm (i := 7) sc_circuits_above.nd rfl (.inl rfl))) (fun _ _ _ _ _ => ft_yes) (fun _ _ _ _ _ => (e_inT hr (fd_var 7) (fd_var 2)))) fa_nil)))))))) (fun _ _ _ _ _ => (fd_var 6))))))), hg, F.kp, hb⟩
abbrev s_circuits : Stmt := topS 5
theorem sc_circuits : FnScope ["offer", "free", "things", "row"] ["offer"] (defScope s_circuits) := ⟨rfl, rfl, rfl, by decide +kernel, rfl, by decide +kernel, by decide +kernel⟩
theorem ok_circuits {a : Addr} {fd : FuncData} (F : Fun K "circuits" "circuits" s_circuits a fd) (D_free_sets : FnD P w K mg base Tb "free_sets" 3 m_free_sets) (D_circuits_above : FnD P w K mg base Tb "_circuits_above" 3 m_circuits_above) (hg : mg "circuits" = some (.ref a)) (hb : Binds K fd ["offer"] []) (B : Bi mg) : FnD P w K mg base Tb "circuits" 4 m_circuits := ⟨a, fd, ["offer"], fn_okD F sc_circuits fun cdv A outer s H E hr => 
  (fs_cons (fs_set (i := 1) sc_circuits.nd rfl (.inr rfl) (e_call D_free_sets (fun σ => lets_of (L2N.takes_of rfl rfl rfl rfl) σ) hr (fa_cons (fd_var 0) fa_nil))) (fs_one (fs_ret (e_tuple B (fa_cons (e_sorted B hr (fa_cons (fd_lc2 rfl sc_circuits.nd (fi_keys (fd_var 1)) (own := [("things", 2), ("row", 3)]) (vs1 := [3]) (blkOk_by (by rfl)) (fun _ _ _ _ _ => (fg_nm (i := 2) sc_circuits.nd rfl (.inl rfl))) (fun _ _ _ _ _ => ft_yes) (fun _ _ _ _ _ => (fi_seq (e_call D_circuits_above (fun σ => lets0 σ) hr (fa_cons (fd_var 2) (fa_cons (e_ix (fd_var 0) fd_int) (fa_cons (fd_var 1) fa_nil)))))) (fun _ _ _ _ _ => (fg_nm (i := 3) sc_circuits.nd rfl (.inl rfl))) (fun _ _ _ _ _ => ft_yes) (fun _ _ _ _ _ => (fd_var 3))) fa_nil)) fa_nil))))), hg, F.kp, hb⟩
abbrev s_things_with : Stmt := topS 9
theorem sc_things_with : FnScope ["thing", "rows", "joined", "row", "other"] ["thing", "rows"] (defScope s_things_with) := ⟨rfl, rfl, rfl, by decide +kernel, rfl, by decide +kernel, by decide +kernel⟩
theorem ok_things_with {a : Addr} {fd : FuncData} (F : Fun K "_things_with" "_things_with" s_things_with a fd) (hg : mg "_things_with" = some (.ref a)) (hb : Binds K fd ["thing", "rows"] []) (B : Bi mg) : FnD P w K mg base Tb "_things_with" 1 m_things_with := ⟨a, fd, ["thing", "rows"], fn_okD F sc_things_with fun cdv A outer s H E hr => 
  (fs_cons (fs_setLc2 (i := 2) rfl sc_things_with.nd rfl rfl (by rfl) (fi_seq (fd_var 1)) (own := [("row", 3), ("other", 4)]) (vs1 := [4]) (blkOk_by (by rfl)) (fun _ _ _ _ _ => (fg_nm (i := 3) sc_things_with.nd rfl (.inl rfl))) (fun _ _ _ _ _ => (ft_one (t_in hr (fd_var 0) (fd_var 3)))) (fun _ _ _ _ _ => (fi_seq (fd_var 3))) (fun _ _ _ _ _ => (fg_nm (i := 4) sc_things_with.nd rfl (.inl rfl))) (fun _ _ _ _ _ => ft_yes) (fun _ _ _ _ _ => (fd_var 4))) (fs_one (fs_ret (e_tuple B (fa_cons (fd_sortSetW B (fd_add (fd_var 2) (fd_lst (fa_cons (fd_var 0) fa_nil)))) fa_nil))))), hg, F.kp, hb⟩
abbrev s_pieces : Stmt := topS 8
theorem sc_pieces : FnScope ["offer", "rows", "thing"] ["offer"] (defScope s_pieces) := ⟨rfl, rfl, rfl, by decide +kernel, rfl, by decide +kernel, by decide +kernel⟩
theorem ok_pieces {a : Addr} {fd : FuncData} (F : Fun K "pieces" "pieces" s_pieces a fd) (D_circuits : FnD P w K mg base Tb "circuits" 4 m_circuits) (D_things_with : FnD P w K mg base Tb "_things_with" 1 m_things_with) (hg : mg "pieces" = some (.ref a)) (hb : Binds K fd ["offer"] []) (B : Bi mg) : FnD P w K mg base Tb "pieces" 5 m_pieces := ⟨a, fd, ["offer"], fn_okD F sc_pieces fun cdv A outer s H E hr => 
  (fs_cons (fs_set (i := 1) sc_pieces.nd rfl (.inr rfl) (e_call D_circuits (fun σ => lets_of (L2N.takes_of rfl rfl rfl rfl) σ) hr (fa_cons (fd_var 0) fa_nil))) (fs_one (fs_ret (e_tuple B (fa_cons (fd_sortSc hr B rfl sc_pieces.nd (fi_rng1 (by rfl) B.range (fa_cons (e_ix (fd_var 0) fd_int) fa_nil)) (own := [("thing", 2)]) (blkOk_by (by rfl)) (fun _ _ _ _ _ => (fg_nm (i := 2) sc_pieces.nd rfl (.inl rfl))) (fun _ _ _ _ _ => ft_yes) (fun _ _ _ _ _ => (e_call D_things_with (fun σ => lets0 σ) hr (fa_cons (fd_var 2) (fa_cons (fd_var 1) fa_nil))))) fa_nil))))), hg, F.kp, hb⟩
abbrev s_law_is_integer : Stmt := topS 14
theorem sc_law_is_integer : FnScope ["value"] ["value"] (defScope s_law_is_integer) := ⟨rfl, rfl, rfl, by decide +kernel, rfl, by decide +kernel, by decide +kernel⟩
theorem ok_law_is_integer {a : Addr} {fd : FuncData} (F : Fun K "_law_is_integer" "_law_is_integer" s_law_is_integer a fd) (hg : mg "_law_is_integer" = some (.ref a)) (hb : Binds K fd ["value"] []) (B : Bi mg) : FnD P w K mg base Tb "_law_is_integer" 1 m_law_is_integer := ⟨a, fd, ["value"], fn_okD F sc_law_is_integer fun cdv A outer s H E hr => 
  (fs_one (fs_ret (fd_and (e_isInt B (fd_var 0)) (fd_one (fd_not (e_isBool B (fd_var 0))))))), hg, F.kp, hb⟩
abbrev s_law_is_set : Stmt := topS 15
theorem sc_law_is_set : FnScope ["value", "size", "k"] ["value", "size"] (defScope s_law_is_set) := ⟨rfl, rfl, rfl, by decide +kernel, rfl, by decide +kernel, by decide +kernel⟩
theorem ok_law_is_set {a : Addr} {fd : FuncData} (F : Fun K "_law_is_set" "_law_is_set" s_law_is_set a fd) (D_law_is_integer : FnD P w K mg base Tb "_law_is_integer" 1 m_law_is_integer) (hg : mg "_law_is_set" = some (.ref a)) (hb : Binds K fd ["value", "size"] []) (B : Bi mg) : FnD P w K mg base Tb "_law_is_set" 2 m_law_is_set := ⟨a, fd, ["value", "size"], fn_okD F sc_law_is_set fun cdv A outer s H E hr => 
  (fs_cons (fs_if (ft_not (ft_val (e_isTuple B (fd_var 0)))) (fs_one (fs_ret fd_bl)) fs_nil) (fs_cons (fs_for (passes_of rfl) rfl (fi_rng1 (by rfl) B.range (fa_cons (e_len B (fa_cons (fd_var 0) fa_nil)) fa_nil)) (fg_nm (i := 2) sc_law_is_set.nd rfl (.inl rfl)) (fs_cons (fs_if (PW.pt (fw_or (ft_not (ft_val (e_call D_law_is_integer (fun σ => lets_of (L2N.takes_of rfl rfl rfl rfl) σ) hr (fa_cons (e_ix (fd_var 0) (fd_var 2)) fa_nil)))) (fw_or (t_lt (e_ix (fd_var 0) (fd_var 2)) fd_int) (fw_or1 (t_ge (e_ix (fd_var 0) (fd_var 2)) (fd_var 1)))))) (fs_one (fs_ret fd_bl)) fs_nil) (fs_one (fs_if (PW.pt (fw_and (t_gt (fd_var 2) fd_int) (fw_and1 (t_le (e_ix (fd_var 0) (fd_var 2)) (e_ix (fd_var 0) (fd_sub (fd_var 2) fd_int)))))) (fs_one (fs_ret fd_bl)) fs_nil)))) (fs_one (fs_ret fd_bl)))), hg, F.kp, hb⟩
abbrev s_law_are_pieces : Stmt := topS 26
theorem sc_law_are_pieces : FnScope ["told", "offer", "rows", "k", "thing", "other", "alike", "piece", "row"] ["told", "offer", "rows"] (defScope s_law_are_pieces) := ⟨rfl, rfl, rfl, by decide +kernel, rfl, by decide +kernel, by decide +kernel⟩
theorem ok_law_are_pieces {a : Addr} {fd : FuncData} (F : Fun K "_law_are_pieces" "_law_are_pieces" s_law_are_pieces a fd) (D_law_is_set : FnD P w K mg base Tb "_law_is_set" 2 m_law_is_set) (hg : mg "_law_are_pieces" = some (.ref a)) (hb : Binds K fd ["told", "offer", "rows"] []) (B : Bi mg) : FnD P w K mg base Tb "_law_are_pieces" 3 m_law_are_pieces := ⟨a, fd, ["told", "offer", "rows"], fn_okD F sc_law_are_pieces fun cdv A outer s H E hr => 
  (fs_cons (fs_if (ft_not (ft_val (e_isTuple B (fd_var 0)))) (fs_one (fs_ret fd_bl)) fs_nil) (fs_cons (fs_for (passes_of rfl) rfl (fi_rng1 (by rfl) B.range (fa_cons (e_len B (fa_cons (fd_var 0) fa_nil)) fa_nil)) (fg_nm (i := 3) sc_law_are_pieces.nd rfl (.inl rfl)) (fs_cons (fs_if (PW.pt (fw_or (ft_not (ft_val (e_call D_law_is_set (fun σ => lets_of (L2N.takes_of rfl rfl rfl rfl) σ) hr (fa_cons (e_ix (fd_var 0) (fd_var 3)) (fa_cons (e_ix (fd_var 1) fd_int) fa_nil))))) (fw_or1 (t_eq hr (e_len B (fa_cons (e_ix (fd_var 0) (fd_var 3)) fa_nil)) fd_int)))) (fs_one (fs_ret fd_bl)) fs_nil) (fs_one (fs_if (PW.pt (fw_and (t_gt (fd_var 3) fd_int) (fw_and1 (t_leT hr (e_ix (fd_var 0) (fd_var 3)) (e_ix (fd_var 0) (fd_sub (fd_var 3) fd_int)))))) (fs_one (fs_ret fd_bl)) fs_nil)))) (fs_cons (fs_for (passes_of rfl) rfl (fi_rng1 (by rfl) B.range (fa_cons (e_ix (fd_var 1) fd_int) fa_nil)) (fg_nm (i := 4) sc_law_are_pieces.nd rfl (.inr rfl)) (fs_cons (fs_if (t_ne hr (e_len B (fa_cons (fd_lc rfl sc_law_are_pieces.nd (fi_seq (fd_var 0)) (own := [("piece", 7)]) (blkOk_by (by rfl)) (fun _ _ _ _ _ => (fg_nm (i := 7) sc_law_are_pieces.nd rfl (.inl rfl))) (fun _ _ _ _ _ => (ft_one (t_in hr (fd_var 4) (fd_var 7)))) (fun _ _ _ _ _ => (fd_var 7))) fa_nil)) fd_int) (fs_one (fs_ret fd_bl)) fs_nil) (fs_one (fs_for (passes_of rfl) rfl (fi_rng1 (by rfl) B.range (fa_cons (fd_var 4) fa_nil)) (fg_nm (i := 5) sc_law_are_pieces.nd rfl (.inr rfl)) (fs_cons (fs_set (i := 6) sc_law_are_pieces.nd rfl (.inl rfl) (e_any B (fa_cons (fd_lc rfl sc_law_are_pieces.nd (fi_seq (fd_var 0)) (own := [("piece", 7)]) (blkOk_by (by rfl)) (fun _ _ _ _ _ => (fg_nm (i := 7) sc_law_are_pieces.nd rfl (.inl rfl))) (fun _ _ _ _ _ => ft_yes) (fun _ _ _ _ _ => (fd_and (e_in hr (fd_var 4) (fd_var 7)) (fd_one (e_in hr (fd_var 5) (fd_var 7)))))) fa_nil))) (fs_one (fs_if (t_ne hr (fd_var 6) (e_any B (fa_cons (fd_lc rfl sc_law_are_pieces.nd (fi_seq (fd_var 2)) (own := [("row", 8)]) (blkOk_by (by rfl)) (fun _ _ _ _ _ => (fg_nm (i := 8) sc_law_are_pieces.nd rfl (.inl rfl))) (fun _ _ _ _ _ => ft_yes) (fun _ _ _ _ _ => (fd_and (e_in hr (fd_var 4) (fd_var 8)) (fd_one (e_in hr (fd_var 5) (fd_var 8)))))) fa_nil))) (fs_one (fs_ret fd_bl)) fs_nil))))))) (fs_one (fs_ret fd_bl))))), hg, F.kp, hb⟩
abbrev s_law_within : Stmt := topS 18
theorem sc_law_within : FnScope ["inner", "outer", "thing"] ["inner", "outer"] (defScope s_law_within) := ⟨rfl, rfl, rfl, by decide +kernel, rfl, by decide +kernel, by decide +kernel⟩
theorem ok_law_within {a : Addr} {fd : FuncData} (F : Fun K "_law_within" "_law_within" s_law_within a fd) (hg : mg "_law_within" = some (.ref a)) (hb : Binds K fd ["inner", "outer"] []) (B : Bi mg) : FnD P w K mg base Tb "_law_within" 1 m_law_within := ⟨a, fd, ["inner", "outer"], fn_okD F sc_law_within fun cdv A outer s H E hr => 
  (fs_one (fs_ret (e_all B (fa_cons (fd_lc rfl sc_law_within.nd (fi_seq (fd_var 0)) (own := [("thing", 2)]) (blkOk_by (by rfl)) (fun _ _ _ _ _ => (fg_nm (i := 2) sc_law_within.nd rfl (.inl rfl))) (fun _ _ _ _ _ => ft_yes) (fun _ _ _ _ _ => (e_in hr (fd_var 2) (fd_var 1)))) fa_nil)))), hg, F.kp, hb⟩
abbrev s_law_free : Stmt := topS 22
theorem sc_law_free : FnScope ["things", "lots", "lot"] ["things", "lots"] (defScope s_law_free) := ⟨rfl, rfl, rfl, by decide +kernel, rfl, by decide +kernel, by decide +kernel⟩
theorem ok_law_free {a : Addr} {fd : FuncData} (F : Fun K "_law_free" "_law_free" s_law_free a fd) (D_law_within : FnD P w K mg base Tb "_law_within" 1 m_law_within) (hg : mg "_law_free" = some (.ref a)) (hb : Binds K fd ["things", "lots"] []) (B : Bi mg) : FnD P w K mg base Tb "_law_free" 2 m_law_free := ⟨a, fd, ["things", "lots"], fn_okD F sc_law_free fun cdv A outer s H E hr => 
  (fs_one (fs_ret (e_any B (fa_cons (fd_lc rfl sc_law_free.nd (fi_seq (fd_var 1)) (own := [("lot", 2)]) (blkOk_by (by rfl)) (fun _ _ _ _ _ => (fg_nm (i := 2) sc_law_free.nd rfl (.inl rfl))) (fun _ _ _ _ _ => ft_yes) (fun _ _ _ _ _ => (e_call D_law_within (fun σ => lets0 σ) hr (fa_cons (fd_var 0) (fa_cons (fd_var 2) fa_nil))))) fa_nil)))), hg, F.kp, hb⟩
abbrev s_law_circuits : Stmt := topS 23
theorem sc_law_circuits : FnScope ["offer", "rows", "found", "row", "other"] ["offer"] (defScope s_law_circuits) := ⟨rfl, rfl, rfl, by decide +kernel, rfl, by decide +kernel, by decide +kernel⟩
theorem ok_law_circuits {a : Addr} {fd : FuncData} (F : Fun K "_law_circuits" "_law_circuits" s_law_circuits a fd) (D_law_parts_of : FnD P w K mg base Tb "_law_parts_of" 1 m_law_parts_of) (D_law_free : FnD P w K mg base Tb "_law_free" 2 m_law_free) (D_law_within : FnD P w K mg base Tb "_law_within" 1 m_law_within) (hg : mg "_law_circuits" = some (.ref a)) (hb : Binds K fd ["offer"] []) (B : Bi mg) : FnD P w K mg base Tb "_law_circuits" 3 m_law_circuits := ⟨a, fd, ["offer"], fn_okD F sc_law_circuits fun cdv A outer s H E hr => 
  (fs_cons (fs_setLc (i := 1) rfl sc_law_circuits.nd rfl rfl (by rfl) (fi_seq (e_call D_law_parts_of (fun σ => lets_of (L2N.takes_of rfl rfl rfl rfl) σ) hr (fa_cons (e_ix (fd_var 0) fd_int) fa_nil))) (own := [("row", 3)]) (blkOk_by (by rfl)) (fun _ _ _ _ _ => (fg_nm (i := 3) sc_law_circuits.nd rfl (.inl rfl))) (fun _ _ _ _ _ => (ft_one (ft_not (ft_val (e_call D_law_free (fun σ => lets0 σ) hr (fa_cons (fd_var 3) (fa_cons (e_ix (fd_var 0) fd_int) fa_nil))))))) (fun _ _ _ _ _ => (fd_var 3))) (fs_cons (fs_own (i := 2) sc_law_circuits.nd rfl (.inl rfl) (fn_lst fa_nil)) (fs_cons (fs_for (passes_of rfl) rfl (fi_seq (fd_var 1)) (fg_nm (i := 3) sc_law_circuits.nd rfl (.inr rfl)) (fs_one (fs_if (ft_not (ft_val (e_any B (fa_cons (fd_lc rfl sc_law_circuits.nd (fi_seq (fd_var 1)) (own := [("other", 4)]) (blkOk_by (by rfl)) (fun _ _ _ _ _ => (fg_nm (i := 4) sc_law_circuits.nd rfl (.inl rfl))) (fun _ _ _ _ _ => ft_yes) (fun _ _ _ _ _ => (fd_and (e_ne hr (fd_var 4) (fd_var 3)) (fd_one (e_call D_law_within (fun σ => lets0 σ) hr (fa_cons (fd_var 4) (fa_cons (fd_var 3) fa_nil))))))) fa_nil)))) (fs_one (fs_app (i := 2) rfl (.inl rfl) (by decide) (by decide) (fd_var 3) rfl rfl rfl rfl rfl rfl)) fs_nil))) (fs_frz 2 (fs_one (fs_ret (fd_var 2))))))), hg, F.kp, hb⟩
abbrev s_law_is_offer : Stmt := topS 16
theorem sc_law_is_offer : FnScope ["told", "size", "lots", "lot"] ["told", "size", "lots"] (defScope s_law_is_offer) := ⟨rfl, rfl, rfl, by decide +kernel, rfl, by decide +kernel, by decide +kernel⟩
theorem ok_law_is_offer {a : Addr} {fd : FuncData} (F : Fun K "_law_is_offer" "_law_is_offer" s_law_is_offer a fd) (D_law_is_integer : FnD P w K mg base Tb "_law_is_integer" 1 m_law_is_integer) (D_law_is_set : FnD P w K mg base Tb "_law_is_set" 2 m_law_is_set) (hg : mg "_law_is_offer" = some (.ref a)) (hb : Binds K fd ["told", "size", "lots"] []) (B : Bi mg) : FnD P w K mg base Tb "_law_is_offer" 3 m_law_is_offer := ⟨a, fd, ["told", "size", "lots"], fn_okD F sc_law_is_offer fun cdv A outer s H E hr => 
  (fs_cons (fs_if (PW.pt (fw_or (ft_not (ft_val (e_isTuple B (fd_var 0)))) (fw_or (t_ne hr (e_len B (fa_cons (fd_var 0) fa_nil)) fd_int) (fw_or (ft_not (ft_val (e_call D_law_is_integer (fun σ => lets_of (L2N.takes_of rfl rfl rfl rfl) σ) hr (fa_cons (e_ix (fd_var 0) fd_int) fa_nil)))) (fw_or1 (t_ne hr (e_ix (fd_var 0) fd_int) (fd_var 1))))))) (fs_one (fs_ret fd_bl)) fs_nil) (fs_cons (fs_if (PW.pt (fw_or (ft_not (ft_val (e_isTuple B (e_ix (fd_var 0) fd_int)))) (fw_or1 (t_ne hr (e_ix (fd_var 0) fd_int) (fd_var 2))))) (fs_one (fs_ret fd_bl)) fs_nil) (fs_cons (fs_for (passes_of rfl) rfl (fi_seq (e_ix (fd_var 0) fd_int)) (fg_nm (i := 3) sc_law_is_offer.nd rfl (.inl rfl)) (fs_one (fs_if (ft_not (ft_val (e_call D_law_is_set (fun σ => lets_of (L2N.takes_of rfl rfl rfl rfl) σ) hr (fa_cons (fd_var 3) (fa_cons (fd_var 1) fa_nil))))) (fs_one (fs_ret fd_bl)) fs_nil))) (fs_one (fs_ret fd_bl))))), hg, F.kp, hb⟩
abbrev s_law_part : Stmt := topS 27
theorem sc_law_part : FnScope ["lot", "piece", "k"] ["lot", "piece"] (defScope s_law_part) := ⟨rfl, rfl, rfl, by decide +kernel, rfl, by decide +kernel, by decide +kernel⟩
theorem ok_law_part {a : Addr} {fd : FuncData} (F : Fun K "_law_part" "_law_part" s_law_part a fd) (hg : mg "_law_part" = some (.ref a)) (hb : Binds K fd ["lot", "piece"] []) (B : Bi mg) : FnD P w K mg base Tb "_law_part" 1 m_law_part := ⟨a, fd, ["lot", "piece"], fn_okD F sc_law_part fun cdv A outer s H E hr => 
  (fs_one (fs_ret (e_tuple B (fa_cons (fd_lc rfl sc_law_part.nd (fi_rng1 (by rfl) B.range (fa_cons (e_len B (fa_cons (fd_var 1) fa_nil)) fa_nil)) (own := [("k", 2)]) (blkOk_by (by rfl)) (fun _ _ _ _ _ => (fg_nm (i := 2) sc_law_part.nd rfl (.inl rfl))) (fun _ _ _ _ _ => (ft_one (t_in hr (e_ix (fd_var 1) (fd_var 2)) (fd_var 0)))) (fun _ _ _ _ _ => (fd_var 2))) fa_nil)))), hg, F.kp, hb⟩
abbrev s_piece_offer : Stmt := topS 10
theorem sc_piece_offer : FnScope ["offer", "things", "numbers", "lots", "number", "thing", "lot"] ["offer", "things"] (defScope s_piece_offer) := ⟨rfl, rfl, rfl, by decide +kernel, rfl, by decide +kernel, by decide +kernel⟩
theorem ok_piece_offer {a : Addr} {fd : FuncData} (F : Fun K "piece_offer" "piece_offer" s_piece_offer a fd) (hg : mg "piece_offer" = some (.ref a)) (hb : Binds K fd ["offer", "things"] []) (B : Bi mg) : FnD P w K mg base Tb "piece_offer" 1 m_piece_offer := ⟨a, fd, ["offer", "things"], fn_okD F sc_piece_offer fun cdv A outer s H E hr => 
  (fs_cons (fs_set (i := 2) sc_piece_offer.nd rfl (.inr rfl) (fd_dcK rfl sc_piece_offer.nd (fi_enum (by rfl) B.enumerate (fa_cons (fd_var 1) fa_nil)) (own := [("number", 4), ("thing", 5)]) (blkOk_by (by rfl)) (fun _ _ _ _ _ => (fg_tup rfl (fgs_cons (fg_nm (i := 4) sc_piece_offer.nd rfl (.inl rfl)) (fgs_cons (fg_nm (i := 5) sc_piece_offer.nd rfl (.inl rfl)) fgs_nil)))) (fun _ _ _ _ _ => ft_yes) (fun _ _ _ _ _ => (fd_var 5)) (fun _ _ _ _ _ => (fd_var 4)))) (fs_retS2 (i := 3) hr B rfl sc_piece_offer.nd rfl rfl (.inl rfl) (fi_seq (e_ix (fd_var 0) fd_int)) (own := [("lot", 6)]) (blkOk_by (by rfl)) (fun _ _ _ _ _ => (fg_nm (i := 6) sc_piece_offer.nd rfl (.inl rfl))) (fun _ _ _ _ _ => ft_yes) (fun _ _ _ _ _ => (e_tuple B (fa_cons (fd_lc rfl sc_piece_offer.nd (fi_seq (fd_var 6)) (own := [("thing", 5)]) (blkOk_by (by rfl)) (fun _ _ _ _ _ => (fg_nm (i := 5) sc_piece_offer.nd rfl (.inl rfl))) (fun _ _ _ _ _ => (ft_one (t_inK hr (fd_var 5) (fd_var 2)))) (fun _ _ _ _ _ => (e_dix hr (fd_var 2) (fd_var 5)))) fa_nil))) (e_len B (fa_cons (fd_var 1) fa_nil)))), hg, F.kp, hb⟩
abbrev s_law_tells : Stmt := topS 28
theorem sc_law_tells : FnScope ["offer", "told", "count", "piece", "due", "lot"] ["offer"] (defScope s_law_tells) := ⟨rfl, rfl, rfl, by decide +kernel, rfl, by decide +kernel, by decide +kernel⟩
theorem ok_law_tells {a : Addr} {fd : FuncData} (F : Fun K "_law_tells" "_law_tells" s_law_tells a fd) (D_pieces : FnD P w K mg base Tb "pieces" 5 m_pieces) (D_law_are_pieces : FnD P w K mg base Tb "_law_are_pieces" 3 m_law_are_pieces) (D_law_circuits : FnD P w K mg base Tb "_law_circuits" 3 m_law_circuits) (D_law_is_offer : FnD P w K mg base Tb "_law_is_offer" 3 m_law_is_offer) (D_law_part : FnD P w K mg base Tb "_law_part" 1 m_law_part) (D_piece_offer : FnD P w K mg base Tb "piece_offer" 1 m_piece_offer) (hg : mg "_law_tells" = some (.ref a)) (hb : Binds K fd ["offer"] []) (B : Bi mg) : FnD P w K mg base Tb "_law_tells" 6 m_law_tells_k36 := ⟨a, fd, ["offer"], fn_okD F sc_law_tells fun cdv A outer s H E hr => 
  (fs_cons (fs_set (i := 1) sc_law_tells.nd rfl (.inl rfl) (e_call D_pieces (fun σ => lets_of (L2N.takes_of rfl rfl rfl rfl) σ) hr (fa_cons (fd_var 0) fa_nil))) (fs_cons (fs_if (ft_not (ft_val (e_call D_law_are_pieces (fun σ => lets_of (L2N.takes_of rfl rfl rfl rfl) σ) hr (fa_cons (fd_var 1) (fa_cons (fd_var 0) (fa_cons (e_call D_law_circuits (fun σ => lets_of (L2N.takes_of rfl rfl rfl rfl) σ) hr (fa_cons (fd_var 0) fa_nil)) fa_nil)))))) (fs_one (fs_ret fd_bl)) fs_nil) (fs_cons (fs_set (i := 2) sc_law_tells.nd rfl (.inl rfl) fd_int) (fs_cons (fs_for (passes_of rfl) rfl (fi_seq (fd_var 1)) (fg_nm (i := 3) sc_law_tells.nd rfl (.inl rfl)) (fs_cons (fs_own (i := 4) sc_law_tells.nd rfl (.inl rfl) (fn_lst fa_nil)) (fs_cons (fs_for (passes_of rfl) rfl (fi_seq (e_ix (fd_var 0) fd_int)) (fg_nm (i := 5) sc_law_tells.nd rfl (.inl rfl)) (fs_one (fs_if (ft_thaw (t_notin hr (e_call D_law_part (fun σ => lets_of (L2N.takes_of rfl rfl rfl rfl) σ) hr (fa_cons (fd_var 5) (fa_cons (fd_var 3) fa_nil))) (fd_var 4))) (fs_one (fs_app (i := 4) rfl (.inl rfl) (by decide) (by decide) (e_call D_law_part (fun σ => lets_of (L2N.takes_of rfl rfl rfl rfl) σ) hr (fa_cons (fd_var 5) (fa_cons (fd_var 3) fa_nil))) rfl rfl rfl rfl rfl rfl)) fs_nil))) (fs_frz 4 (fs_cons (fs_if (ft_not (ft_val (e_call D_law_is_offer (fun σ => lets_of (L2N.takes_of rfl rfl rfl rfl) σ) hr (fa_cons (e_call D_piece_offer (fun σ => lets_of (L2N.takes_of rfl rfl rfl rfl) σ) hr (fa_cons (fd_var 0) (fa_cons (fd_var 3) fa_nil))) (fa_cons (e_len B (fa_cons (fd_var 3) fa_nil)) (fa_cons (e_tuple B (fa_cons (e_sorted B hr (fa_cons (fd_var 4) fa_nil)) fa_nil)) fa_nil)))))) (fs_one (fs_ret fd_bl)) fs_nil) (fs_one (fs_set (i := 2) sc_law_tells.nd rfl (.inl rfl) (fd_mul (fd_var 2) (e_len B (fa_cons (fd_var 4) fa_nil)))))))))) (fs_one (fs_ret (e_eq hr (fd_var 2) (e_len B (fa_cons (e_ix (fd_var 0) fd_int) fa_nil))))))))), hg, F.kp, hb⟩
abbrev s_law : Stmt := topS 29
theorem sc_law : FnScope ["script", "offer"] ["script"] (defScope s_law) := ⟨rfl, rfl, rfl, by decide +kernel, rfl, by decide +kernel, by decide +kernel⟩
theorem okF_law {a : Addr} {fd : FuncData} (F : Fun K "law" "law" s_law a fd) (D_law_offer : FnD P w K mg base Tb "_law_offer" 3 m_law_offer_k36) (D_law_tells : FnD P w K mg base Tb "_law_tells" 6 m_law_tells_k36) (B : Bi mg) : FnOk P w K mg base (L2N.CX P w) 7 a fd ["script"] (spD K Tb m_law_k36) := fn_okD F sc_law fun cdv A outer s H E hr => 
  (fs_cons (fs_set (i := 1) sc_law.nd rfl (.inl rfl) (e_call D_law_offer (fun σ => lets_of (L2N.takes_of rfl rfl rfl rfl) σ) hr (fa_cons (fd_var 0) fa_nil))) (fs_one (fs_ret (fd_and (e_call D_law_tells (fun σ => lets_of (L2N.takes_of rfl rfl rfl rfl) σ) hr (fa_cons (fd_var 1) fa_nil)) (fd_one (e_call D_law_tells (fun σ => lets_of (L2N.takes_of rfl rfl rfl rfl) σ) hr (fa_cons (fd_var 1) fa_nil)))))))
end
end LW
set_option Elab.async false
set_option maxRecDepth 100000
set_option linter.all false
set_option maxHeartbeats 2000000
namespace LW
open PySem PySem.Spec PyProof.Rows L2 PD
theorem v_integer (x : Int) : m_law_is_integer [.int x] = .ok (.bool true) := by
  show endR (g_law_is_integer [some (.d (.int x))]) = _
  simp [g_law_is_integer, isi_int, isi_bool]
theorem v_within (a b : List Int) : m_law_within [tu a, tu b] = .ok (.bool (a.all fun x => decide (x ∈ b))) := by
  show endR (g_law_within [some (.d (tu a)), some (.d (tu b)), none]) = _
  simp [g_law_within]
theorem v_cell (ns : List Int) (k : Int) (h : 0 ≤ k) : ∃ c : Int, m_law_cell [li ns, .int k] = .ok (.int c) := by
  show ∃ c : Int, endR (g_law_cell [some (.d (li ns)), some (.d (.int k))]) = _
  by_cases hk : k < (ns.length : Int)
  · have hl : k.toNat < ns.length := by omega
    refine ⟨ns[k.toNat], ?_⟩
    simp [g_law_cell, hk, oIx_li h (List.getElem?_eq_getElem hl)]
  · refine ⟨5 * k + 3, ?_⟩
    simp [g_law_cell, hk, oMul_l]
theorem v_draws (c n : Int) (h0 : 0 ≤ n) (h1 : n ≤ 1000) : ∃ L : List Int, m_law_draws [.int c, .int n] = .ok (li L) ∧ L.length = n.toNat ∧ ∀ x ∈ L, 0 ≤ x ∧ x < 5040 := by
  show ∃ L : List Int, endR (g_law_draws [some (.d (.int c)), some (.d (.int n)), none, none, none, none, none, none]) = _ ∧ _
  have key := forGo_inv (i := 6) (g := b_law_draws_1) (enc := PyData.int) (fun xs ρ => ∃ (rest seed : Int) (dg : Bool) (L : List Int) (o6 o7 : Option Sl),
    ρ = [some (.d (.int c)), some (.d (.int n)), some (.d (.int rest)), some (.d (.bool dg)), some (.d (.int seed)), some (.own (L.map .int)), o6, o7] ∧ L.length + xs.length = n.toNat ∧ ∀ x ∈ L, 0 ≤ x ∧ x < 5040) (by
    rintro k xs ρ ⟨rest, seed, dg, L, o6, o7, rfl, hl, hL⟩
    have hl' : L.length + (xs.length + 1) = n.toNat := by simpa using hl
    have hs : L.length < sizeLine := line_lt (by omega)
    have app : ∀ y : Int, 0 ≤ y → y < 5040 → ∀ x ∈ L ++ [y], 0 ≤ x ∧ x < 5040 := fun y a b x hx => by
      rcases List.mem_append.mp hx with hx | hx
      · exact hL x hx
      · rw [List.mem_singleton.mp hx]; exact ⟨a, b⟩
    by_cases hb : dg = true ∧ 0 < rest
    · obtain ⟨rfl, hr⟩ := hb
      refine ⟨[some (.d (.int c)), some (.d (.int n)), some (.d (.int (rest.fdiv 5040))), some (.d (.bool true)), some (.d (.int seed)), some (.own ((L ++ [rest.fmod 5040]).map .int)), some (.d (.int k)), o7], ?_, rest.fdiv 5040, seed, true, L ++ [rest.fmod 5040], _, _, rfl, by simp; omega, app _ (fmod_lo _ (by decide)) (fmod_hi _ (by decide))⟩
      simp [b_law_draws_1, hr, oMod_int, oDiv_lit, hs]
    · have hc : (if dg = true then decide (0 < rest) else false) = false := by
        cases dg <;> simp_all
      have m1 := fmod_lo (seed * 48271 + (k + 1) * 69621 + 11) (b := 2147483647) (by decide)
      have m2 := fmod_hi (seed * 48271 + (k + 1) * 69621 + 11) (b := 2147483647) (by decide)
      generalize hm : (seed * 48271 + (k + 1) * 69621 + 11).fmod 2147483647 = mx at m1 m2
      refine ⟨[some (.d (.int c)), some (.d (.int n)), some (.d (.int rest)), some (.d (.bool dg)), some (.d (.int seed)), some (.own ((L ++ [(((mx * mx + 40692 * (k + 3)).fmod 2147483399).fdiv 64).fmod 5040]).map .int)), some (.d (.int k)), some (.d (.int ((mx * mx + 40692 * (k + 3)).fmod 2147483399)))], ?_,
        rest, seed, dg, L ++ [(((mx * mx + 40692 * (k + 3)).fmod 2147483399).fdiv 64).fmod 5040], _, _, rfl, by simp; omega, app _ (fmod_lo _ (by decide)) (fmod_hi _ (by decide))⟩
      have e1 : oMul (.int mx) (.int mx) = .ok (.int (mx * mx)) := oMul_l (by omega) (by omega)
      simp [b_law_draws_1, hc, oMod_int, oDiv_lit, hs, oMul_r, oMul_l, hm, e1]
      exact fun a b => absurd ⟨a, b⟩ hb)
  obtain ⟨ρ', e, rest, seed, dg, L, o6, o7, rfl, hl, hL⟩ := key (rangeI 0 n) [some (.d (.int c)), some (.d (.int n)), some (.d (.int (if c < 0 then -c else c))), some (.d (.bool (decide (1000000000000000000 ≤ (if c < 0 then -c else c))))), some (.d (.int (if c < 0 then -c else c))), some (.own []), none, none]
    ⟨_, _, _, [], none, none, rfl, by rw [rangeI_len]; simp, by simp⟩
  refine ⟨L, ?_, by simpa using hl, hL⟩
  simp [g_law_draws, rngA1_ok (show n ≤ 100000 by omega) (show -1000 ≤ n by omega), e]
def Asc (n : Int) (l : List Int) : Prop := l.Pairwise (· < ·) ∧ ∀ x ∈ l, 0 ≤ x ∧ x < n
theorem asc_len' : ∀ (l : List Int) (lo n : Int), l.Pairwise (· < ·) → (∀ x ∈ l, lo ≤ x ∧ x < n) → l.length ≤ (n - lo).toNat
  | [], _, _, _, _ => Nat.zero_le _
  | x :: xs, lo, n, h, b => by
    obtain ⟨h1, h2⟩ := List.pairwise_cons.mp h
    obtain ⟨b1, b2⟩ := b x List.mem_cons_self
    have ih := asc_len' xs (x + 1) n h2 fun y hy => ⟨by have := h1 y hy; omega, (b y (List.mem_cons_of_mem _ hy)).2⟩
    rw [List.length_cons]; omega
theorem Asc.len {n : Int} {l : List Int} (h : Asc n l) : l.length ≤ n.toNat := by
  have := asc_len' l 0 n h.1 h.2
  rwa [Int.sub_zero] at this
theorem Asc.nil (n : Int) : Asc n [] := ⟨.nil, by simp⟩
theorem asc_succ {k : Int} (hk : 0 ≤ k) {r : List Int} : Asc (k + 1) r ↔ Asc k r ∨ ∃ r', Asc k r' ∧ r' ++ [k] = r := by
  constructor
  · intro ⟨h1, h2⟩
    rcases List.eq_nil_or_concat r with rfl | ⟨r', z, rfl⟩
    · exact .inl (Asc.nil _)
    · rw [List.concat_eq_append] at h1 h2 ⊢
      obtain ⟨p1, _, p3⟩ := List.pairwise_append.mp h1
      have hz := h2 z (by simp)
      have hr : ∀ x ∈ r', x < z := fun x hx => p3 x hx z (by simp)
      by_cases e : z = k
      · subst e
        exact .inr ⟨r', ⟨p1, fun x hx => ⟨(h2 x (by simp [hx])).1, hr x hx⟩⟩, rfl⟩
      · refine .inl ⟨h1, fun x hx => ⟨(h2 x hx).1, ?_⟩⟩
        rcases List.mem_append.mp hx with hx | hx
        · have := hr x hx; omega
        · rw [List.mem_singleton.mp hx]; omega
  · rintro (⟨h1, h2⟩ | ⟨r', ⟨h1, h2⟩, rfl⟩)
    · exact ⟨h1, fun x hx => ⟨(h2 x hx).1, by have := (h2 x hx).2; omega⟩⟩
    · refine ⟨List.pairwise_append.mpr ⟨h1, List.pairwise_singleton _ _, fun a ha b hb => ?_⟩, fun x hx => ?_⟩
      · rw [List.mem_singleton.mp hb]; exact (h2 a ha).2
      · rcases List.mem_append.mp hx with hx | hx
        · have := h2 x hx; omega
        · rw [List.mem_singleton.mp hx]; omega
theorem rangeI_cons {k n : Int} (h : k < n) : rangeI k n = k :: rangeI (k + 1) n := by
  unfold rangeI
  have e : (n - k).toNat = (n - (k + 1)).toNat + 1 := by omega
  rw [e, List.range_succ_eq_map, List.map_cons, List.map_map]
  congr 1
  · simp
  · refine List.map_congr_left fun i _ => ?_
    show k + ((i + 1 : Nat) : Int) = k + 1 + (i : Int)
    omega
theorem rangeI_nil {k n : Int} (h : n ≤ k) : rangeI k n = [] := by
  unfold rangeI
  rw [show (n - k).toNat = 0 by omega]; rfl
theorem rangeI_inv {k n : Int} {x : Int} {xs : List Int} (h : x :: xs = rangeI k n) : k < n ∧ x = k ∧ xs = rangeI (k + 1) n := by
  by_cases hk : k < n
  · rw [rangeI_cons hk] at h
    exact ⟨hk, (List.cons.inj h).1, (List.cons.inj h).2⟩
  · rw [rangeI_nil (by omega)] at h; cases h
theorem lcR_mem {α β : Type} {f : α → R β} {g : α → β} {xs : List α} (h : ∀ x ∈ xs, f x = .ok (g x)) : lcR (fun _ => .ok true) f xs = .ok (xs.map g) := by
  have := lcR_of (p := fun _ => .ok true) (q := fun _ => true) (g := g) (xs := xs) fun x hx => ⟨rfl, fun _ => h x hx⟩
  rw [this, List.filter_eq_self.mpr (fun _ _ => rfl)]
end LW
set_option Elab.async false
set_option maxRecDepth 100000
set_option linter.all false
set_option maxHeartbeats 2000000
namespace LW
open PySem PySem.Spec PyProof.Rows L2 PD
def ixv (L : List Int) (i : Int) : Int := (L[i.toNat]?).getD 0
def ixr (L : List (List Int)) (i : Int) : List Int := (L[i.toNat]?).getD []
theorem ix_li {L : List Int} {i : Int} (h0 : 0 ≤ i) (h1 : i < (L.length : Int)) : oIx (li L) (.int i) = .ok (.int (ixv L i)) := by
  have hl : i.toNat < L.length := by omega
  unfold ixv
  rw [oIx_li h0 (List.getElem?_eq_getElem hl), List.getElem?_eq_getElem hl]; rfl
theorem ix_tu {L : List Int} {i : Int} (h0 : 0 ≤ i) (h1 : i < (L.length : Int)) : oIx (tu L) (.int i) = .ok (.int (ixv L i)) := by
  have hl : i.toNat < L.length := by omega
  unfold ixv
  rw [oIx_tu h0 (List.getElem?_eq_getElem hl), List.getElem?_eq_getElem hl]; rfl
theorem ixv_mem {L : List Int} {i : Int} (h0 : 0 ≤ i) (h1 : i < (L.length : Int)) : ixv L i ∈ L := by
  have hl : i.toNat < L.length := by omega
  unfold ixv
  rw [List.getElem?_eq_getElem hl]; exact List.getElem_mem hl
theorem ixr_mem {L : List (List Int)} {i : Int} (h0 : 0 ≤ i) (h1 : i < (L.length : Int)) : ixr L i ∈ L := by
  have hl : i.toNat < L.length := by omega
  unfold ixr
  rw [List.getElem?_eq_getElem hl]; exact List.getElem_mem hl
theorem v_rest (row : List Int) (n : Int) (h0 : 0 ≤ n) (h1 : n ≤ 1000) : m_law_rest [tu row, .int n] = .ok (tu ((rangeI 0 n).filter fun x => !decide (x ∈ row))) := by
  show endR (g_law_rest [some (.d (tu row)), some (.d (.int n)), none]) = _
  simp [g_law_rest, rngA1_ok (show n ≤ 100000 by omega) (show -1000 ≤ n by omega)]
theorem v_count (row cl : List Int) (c : Int) (h : ∀ x ∈ row, 0 ≤ x ∧ x < (cl.length : Int)) : m_law_count [tu row, li cl, .int c] = .ok (.int (row.filter fun x => ixv cl x == c).length) := by
  show endR (g_law_count [some (.d (tu row)), some (.d (li cl)), some (.d (.int c)), none]) = _
  simp [g_law_count]
  rw [lcR_of (q := fun x => ixv cl x == c) (g := fun x => PyData.int x)]
  · simp
  · intro x hx
    simp [ix_li (h x hx).1 (h x hx).2]
theorem v_leave_out (l : List Int) (x : Int) : m_leave_out [tu l, .int x] = .ok (tu (l.filter (fun y => !(y == x)))) := by
  show endR (g_leave_out [some (.d (tu l)), some (.d (.int x)), none]) = _
  simp [g_leave_out]
def gone (x : Int) (l : List Int) : List Int := (l.filter (fun y => !(y == x))).map fun y => if x < y then y - 1 else y
end LW
set_option Elab.async false
set_option maxRecDepth 100000
set_option linter.all false
set_option maxHeartbeats 2000000
namespace LW
open PySem PySem.Spec PyProof.Rows L2 PD
theorem asc_ix {l : List Int} (h : l.Pairwise (· < ·)) {i j : Int} (h0 : 0 ≤ i) (h1 : i < j) (h2 : j < (l.length : Int)) : ixv l i < ixv l j := by
  have a : i.toNat < l.length := by omega
  have b : j.toNat < l.length := by omega
  unfold ixv
  rw [List.getElem?_eq_getElem a, List.getElem?_eq_getElem b]
  exact List.pairwise_iff_getElem.mp h i.toNat j.toNat a b (by omega)
theorem v_is_set (l : List Int) (n : Int) (h : Asc n l) (hl : l.length ≤ 1000) : m_law_is_set [tu l, .int n] = .ok (.bool true) := by
  show endR (g_law_is_set [some (.d (tu l)), some (.d (.int n)), none]) = _
  have key := forGo_inv (i := 2) (g := b_law_is_set_1) (enc := PyData.int) (fun xs ρ => ∃ o2, ρ = [some (.d (tu l)), some (.d (.int n)), o2] ∧ ∀ k ∈ xs, 0 ≤ k ∧ k < (l.length : Int)) (by
    rintro k xs ρ ⟨o2, rfl, hk⟩
    obtain ⟨k0, k1⟩ := hk k List.mem_cons_self
    refine ⟨[some (.d (tu l)), some (.d (.int n)), some (.d (.int k))], ?_, _, rfl, fun y hy => hk y (List.mem_cons_of_mem _ hy)⟩
    have e := ix_tu (L := l) k0 k1
    have m := h.2 _ (ixv_mem k0 k1)
    have a1 : ¬ ixv l k < 0 := by omega
    have a2 : ¬ n ≤ ixv l k := by omega
    by_cases hp : 0 < k
    · have e2 := ix_tu (L := l) (i := k - 1) (by omega) (by omega)
      have a3 := asc_ix h.1 (i := k - 1) (j := k) (by omega) (by omega) k1
      have a4 : ¬ ixv l k ≤ ixv l (k - 1) := by omega
      simp [b_law_is_set_1, e, v_integer, a1, a2, hp, e2, a4]
    · simp [b_law_is_set_1, e, v_integer, a1, a2, hp])
  obtain ⟨ρ', e, o2, rfl, _⟩ := key (rangeI 0 l.length) [some (.d (tu l)), some (.d (.int n)), none] ⟨none, rfl, fun k hk => mem_rangeI.mp hk⟩
  simp [g_law_is_set, isi_tu, rngA1_ok (n := (l.length : Int)) (by omega) (by omega), e]
theorem asc_rest (n : Int) (p : Int → Bool) : Asc n ((rangeI 0 n).filter p) := ⟨(rangeI_asc 0 n).filter p, fun x hx => mem_rangeI.mp (List.mem_filter.mp hx).1⟩
end LW
set_option Elab.async false
set_option maxRecDepth 100000
set_option linter.all false
set_option maxHeartbeats 2000000
namespace LW
open PySem PySem.Spec PyProof.Rows L2 PD
def exch (l : List Int) (x t : Int) : List Int := sortI (l.filter (fun y => !(y == x)) ++ [t])
def part (n : Int) (ls : List (List Int)) (l : List Int) (x : Int) : List Int := ((rangeI 0 n).filter fun t => !decide (t ∈ l)).filter fun t => decide (exch l x t ∈ ls)
end LW
set_option Elab.async false
set_option maxRecDepth 100000
set_option linter.all false
set_option maxHeartbeats 2000000
namespace LW
open PySem PySem.Spec PyProof.Rows L2 PD
theorem bLen_tt (ls : List (List Int)) : bLen [tt ls] = .ok (.int ls.length) := by
  show R.ok (PyData.int ((ls.map tu).length : Int)) = _
  rw [List.length_map]
/-- what a lot does not have -/
def rest (n : Int) (l : List Int) : List Int := (rangeI 0 n).filter fun x => !decide (x ∈ l)
def rank (A : List Int) (ls : List (List Int)) : Int := maxI (ls.map fun l => ((l.filter fun x => decide (x ∈ A)).length : Int))
end LW
set_option Elab.async false
set_option maxRecDepth 100000
set_option linter.all false
set_option maxHeartbeats 2000000
namespace LW
open PySem PySem.Spec PyProof.Rows L2 PD
theorem asc_sub : ∀ {x o : List Int}, x.Pairwise (· < ·) → o.Pairwise (· < ·) → (∀ y ∈ x, y ∈ o) → x.Sublist o
  | [], o, _, _, _ => List.nil_sublist o
  | a :: x, [], _, _, h => absurd (h a List.mem_cons_self) (by simp)
  | a :: x, b :: o, hx, ho, h => by
    obtain ⟨x1, x2⟩ := List.pairwise_cons.mp hx
    obtain ⟨o1, o2⟩ := List.pairwise_cons.mp ho
    by_cases e : a = b
    · subst e
      refine (asc_sub x2 o2 fun y hy => ?_).cons_cons a
      rcases List.mem_cons.mp (h y (List.mem_cons_of_mem _ hy)) with z | z
      · have := x1 y hy; omega
      · exact z
    · have ha : a ∈ o := (List.mem_cons.mp (h a List.mem_cons_self)).resolve_left e
      have hb := o1 a ha
      refine (asc_sub hx o2 fun y hy => ?_).cons b
      rcases List.mem_cons.mp (h y hy) with z | z
      · rcases List.mem_cons.mp hy with q | q
        · omega
        · have := x1 y q; omega
      · exact z
theorem asc_ext {x o : List Int} (hx : x.Pairwise (· < ·)) (ho : o.Pairwise (· < ·)) (h : ∀ y, y ∈ x ↔ y ∈ o) : x = o :=
  let a := asc_sub hx ho fun y hy => (h y).mp hy
  a.eq_of_length (Nat.le_antisymm a.length_le (asc_sub ho hx fun y hy => (h y).mpr hy).length_le)
theorem mem_rest {n y : Int} {l : List Int} : y ∈ rest n l ↔ (0 ≤ y ∧ y < n) ∧ ¬ y ∈ l := by
  unfold rest
  rw [List.mem_filter, mem_rangeI]
  simp
theorem rest_asc (n : Int) (l : List Int) : Asc n (rest n l) := asc_rest n _
theorem rest_rest {n : Int} {l : List Int} (h : Asc n l) : rest n (rest n l) = l := by
  refine asc_ext (rest_asc n _).1 h.1 fun y => ?_
  rw [mem_rest, mem_rest]
  constructor
  · rintro ⟨a, b⟩
    exact Classical.byContradiction fun c => b ⟨a, c⟩
  · intro c
    exact ⟨h.2 y c, fun z => z.2 c⟩
/-- what the lots do not have -/
def opp (n : Int) (ls : List (List Int)) : List (List Int) := sortT (ls.map (rest n))
def has (x : Int) (l : List Int) : Bool := decide (x ∈ l)
end LW
set_option Elab.async false
set_option maxRecDepth 100000
set_option linter.all false
set_option maxHeartbeats 2000000
namespace LW
open PySem PySem.Spec PyProof.Rows L2 PD
/-- an offer as data -/
def ofr (n : Int) (ls : List (List Int)) : PyData := .tuple [.int n, tt ls]
/-- rows that an offer can have -/
structure Good (n : Int) (ls : List (List Int)) : Prop where
  asc : ∀ l ∈ ls, Asc n l
  asd : Asd ls
  ne : ls ≠ []
  len : ls.length ≤ 1000
theorem Good.opp {n : Int} {ls : List (List Int)} (g : Good n ls) : Good n (opp n ls) := by
  refine ⟨fun l hl => ?_, asd_sortT ?_, fun z => ?_, ?_⟩
  · obtain ⟨k, _, rfl⟩ := List.mem_map.mp (mem_sortT.mp hl)
    exact rest_asc n k
  · refine List.pairwise_map.mpr (g.asd.nodup.imp_of_mem fun {a b} ha hb ne e => ne ?_)
    rw [← rest_rest (g.asc a ha), ← rest_rest (g.asc b hb), e]
  · have : (LW.opp n ls).length = 0 := by rw [z]; rfl
    unfold LW.opp at this
    rw [(sortT_perm _).length_eq, List.length_map] at this
    exact g.ne (List.eq_nil_of_length_eq_zero this)
  · unfold LW.opp
    rw [(sortT_perm _).length_eq, List.length_map]
    exact g.len
end LW
set_option Elab.async false
set_option maxRecDepth 100000
set_option linter.all false
set_option maxHeartbeats 2000000
namespace LW
open PySem PySem.Spec PyProof.Rows L2 PD
theorem sortI_eq (l : List Int) : sortI l = l.mergeSort fun a b => decide (a ≤ b) := by
  have h : sortD (l.map PyData.int) = (l.mergeSort fun a b => decide (a ≤ b)).map PyData.int := by
    unfold sortD
    refine (List.map_mergeSort (f := PyData.int) (r := fun a b => decide (a ≤ b)) (s := PySem.W.dataLe false id) (l := l) fun a _ b _ => ?_).symm
    show decide (a ≤ b) = !(PySem.W.dataLt (.int b) (.int a))
    rw [PySem.W.dataLt_int, PySem.W.not_lt_int]
  have e := (sortD_ints l).1
  rw [h] at e
  have inj : ∀ {a b : List Int}, a.map PyData.int = b.map PyData.int → a = b := fun {a b} z => by
    induction a generalizing b with
    | nil => cases b with
      | nil => rfl
      | cons y b => cases z
    | cons x a ih => cases b with
      | nil => cases z
      | cons y b =>
        rw [List.map_cons, List.map_cons] at z
        obtain ⟨z1, z2⟩ := List.cons.inj z
        rw [PyData.int.inj z1, ih z2]
  exact (inj e).symm
theorem sortI_le (l : List Int) : (sortI l).Pairwise (· ≤ ·) := by
  rw [sortI_eq]
  exact (List.pairwise_mergeSort (le := fun a b : Int => decide (a ≤ b)) (fun a b c h1 h2 => by simp only [decide_eq_true_eq] at *; omega) (fun a b => by simp only [Bool.or_eq_true, decide_eq_true_eq]; omega) l).imp fun h => of_decide_eq_true h
theorem sortI_asc {n : Int} {l : List Int} (nd : l.Nodup) (h : ∀ x ∈ l, 0 ≤ x ∧ x < n) : Asc n (sortI l) := by
  refine ⟨((sortI_le l).and ((sortD_ints l).2.nodup_iff.mpr nd)).imp fun {a b} ⟨h1, h2⟩ => by omega, fun x hx => h x (mem_sortI.mp hx)⟩
theorem Asc.nodup {n : Int} {l : List Int} (h : Asc n l) : l.Nodup := h.1.imp fun {a b} z e => by omega
theorem mem_exch {l : List Int} {x t y : Int} : y ∈ exch l x t ↔ (y ∈ l ∧ ¬ y = x) ∨ y = t := by
  unfold exch
  rw [mem_sortI, List.mem_append, List.mem_filter, List.mem_singleton]
  simp
theorem exch_asc {n x t : Int} {l : List Int} (h : Asc n l) (ht : ¬ t ∈ l) (b : 0 ≤ t ∧ t < n) : Asc n (exch l x t) := by
  unfold exch
  refine sortI_asc ?_ fun y hy => ?_
  · rw [List.nodup_append]
    refine ⟨h.nodup.filter _, by simp, fun a ha c hc e => ?_⟩
    rw [List.mem_singleton.mp hc] at e
    exact ht (e ▸ (List.mem_filter.mp ha).1)
  · rcases List.mem_append.mp hy with z | z
    · exact h.2 y (List.mem_filter.mp z).1
    · rw [List.mem_singleton.mp z]; exact b
/-- all exchanges are there -/
def Exc (ls : List (List Int)) : Prop := ∀ l ∈ ls, ∀ x ∈ l, ∀ o ∈ ls, ¬ x ∈ o → ∃ t ∈ o, ¬ t ∈ l ∧ exch l x t ∈ ls
end LW
set_option Elab.async false
set_option maxRecDepth 100000
set_option linter.all false
set_option maxHeartbeats 2000000
namespace LW
open PySem PySem.Spec PyProof.Rows L2 PD
theorem gone_len {x : Int} : ∀ {l : List Int}, l.Nodup → (gone x l).length = if x ∈ l then l.length - 1 else l.length := by
  intro l nd
  unfold gone
  rw [List.length_map]
  induction l with
  | nil => rfl
  | cons y l ih =>
    obtain ⟨h1, h2⟩ := List.nodup_cons.mp nd
    by_cases c : y = x
    · subst c
      rw [List.filter_cons_of_neg (by simp), ih h2, if_neg h1, if_pos List.mem_cons_self]
      rfl
    · rw [List.filter_cons_of_pos (by simpa using c), List.length_cons, ih h2]
      by_cases d : x ∈ l
      · rw [if_pos d, if_pos (List.mem_cons_of_mem _ d), List.length_cons]
        have := List.length_pos_of_mem d
        omega
      · rw [if_neg d, if_neg fun z => by
          rcases List.mem_cons.mp z with z | z
          · exact c z.symm
          · exact d z]
        rfl
/-- all rows have the same number of things -/
def Eqs (ls : List (List Int)) : Prop := ∀ l ∈ ls, ∀ k ∈ ls, l.length = k.length
/-- lots of which all exchanges are there, all of one size -/
structure Smooth (n : Int) (ls : List (List Int)) : Prop where
  good : Good n ls
  exc : Exc ls
  eqs : Eqs ls
end LW
set_option Elab.async false
set_option maxRecDepth 100000
set_option linter.all false
set_option maxHeartbeats 2000000
namespace LW
open PySem PySem.Spec PyProof.Rows L2 PD
/-- how many of these things a lot has -/
def cnt (A l : List Int) : Nat := (l.filter fun y => decide (y ∈ A)).length
theorem sub_len {l k : List Int} (h : l.Pairwise (· < ·)) (h' : k.Pairwise (· < ·)) (s : ∀ y ∈ l, y ∈ k) : l.length ≤ k.length := (asc_sub h h' s).length_le
end LW
set_option Elab.async false
set_option maxRecDepth 100000
set_option linter.all false
set_option maxHeartbeats 2000000
namespace LW
open PySem PySem.Spec PyProof.Rows L2 PD
theorem le_rank {A l : List Int} {ls : List (List Int)} (h : l ∈ ls) : (cnt A l : Int) ≤ rank A ls := le_maxI (List.mem_map.mpr ⟨l, h, rfl⟩)
theorem rank_at {A : List Int} {ls : List (List Int)} (h : ls ≠ []) : ∃ l ∈ ls, rank A ls = (cnt A l : Int) := by
  have m : rank A ls ∈ ls.map fun l => (cnt A l : Int) := maxI_mem (by rw [List.length_map]; exact List.length_pos_iff.mpr h)
  obtain ⟨l, hl, e⟩ := List.mem_map.mp m
  exact ⟨l, hl, e.symm⟩
end LW
set_option Elab.async false
set_option maxRecDepth 100000
set_option linter.all false
set_option maxHeartbeats 2000000
set_option Elab.async false
set_option maxRecDepth 100000
set_option linter.all false
set_option maxHeartbeats 2000000
set_option Elab.async false
set_option maxRecDepth 100000
set_option linter.all false
set_option maxHeartbeats 2000000
namespace LW
open PySem PySem.Spec PyProof.Rows L2 PD
/-- alike outside two things -/
def Alike (x y : Int) (l m : List Int) : Prop := ∀ z, ¬ z = x → ¬ z = y → (z ∈ l ↔ z ∈ m)
theorem Alike.swap {x y : Int} {l m : List Int} (h : Alike x y l m) : Alike y x l m := fun z z1 z2 => h z z2 z1
end LW
set_option Elab.async false
set_option maxRecDepth 100000
set_option linter.all false
set_option maxHeartbeats 4000000
set_option Elab.async false
set_option maxRecDepth 100000
set_option linter.all false
set_option maxHeartbeats 2000000
namespace LW
open PySem PySem.Spec PyProof.Rows L2 PD
/-- `near`, and what the first lot shares with l stays -/
theorem near_keep {n x : Int} {ls : List (List Int)} {l : List Int} (s : Smooth n ls) (hl : l ∈ ls) (hxl : ¬ x ∈ l) : ∀ (m : Nat) (k : List Int), k ∈ ls → x ∈ k → (k.filter fun y => !decide (y ∈ l)).length ≤ m → ∃ k' ∈ ls, x ∈ k' ∧ (∀ y ∈ k', ¬ y = x → y ∈ l) ∧ ∀ y ∈ k, y ∈ l → y ∈ k'
  | 0, k, hk, hxk, hm => by
    have e := List.eq_nil_of_length_eq_zero (Nat.le_zero.mp hm)
    have : x ∈ k.filter fun y => !decide (y ∈ l) := List.mem_filter.mpr ⟨hxk, by simpa using hxl⟩
    rw [e] at this
    cases this
  | m + 1, k, hk, hxk, hm => by
    by_cases c : ∀ y ∈ k, ¬ y = x → y ∈ l
    · exact ⟨k, hk, hxk, c, fun y hy _ => hy⟩
    · obtain ⟨z, hz⟩ := Classical.not_forall.mp c
      obtain ⟨z1, hz⟩ := Classical.not_imp.mp hz
      obtain ⟨z2, z3⟩ := Classical.not_imp.mp hz
      obtain ⟨t, t1, t2, t3⟩ := s.exc k hk z z1 l hl z3
      have ka := s.good.asc k hk
      have ea := s.good.asc _ t3
      have sub : ((exch k z t).filter fun y => !decide (y ∈ l)).length ≤ ((k.filter fun y => !decide (y ∈ l)).filter fun y => !(y == z)).length := by
        refine sub_len (ea.1.filter _) ((ka.1.filter _).filter _) fun y hy => ?_
        obtain ⟨y1, y2⟩ := List.mem_filter.mp hy
        have y3 : ¬ y ∈ l := by simpa using y2
        rcases mem_exch.mp y1 with q | q
        · exact List.mem_filter.mpr ⟨List.mem_filter.mpr ⟨q.1, y2⟩, by simpa using q.2⟩
        · exact absurd (q ▸ t1) y3
      have one := gone_len (x := z) (l := k.filter fun y => !decide (y ∈ l)) (ka.nodup.filter _)
      unfold gone at one
      rw [List.length_map, if_pos (List.mem_filter.mpr ⟨z1, by simpa using z3⟩)] at one
      obtain ⟨k', k1, k2, k3, k4⟩ := near_keep s hl hxl m (exch k z t) t3 (mem_exch.mpr (.inl ⟨hxk, fun e => z2 e.symm⟩)) (by omega)
      exact ⟨k', k1, k2, k3, fun y hy hyl => k4 y (mem_exch.mpr (.inl ⟨hy, fun e => z3 (e ▸ hyl)⟩)) hyl⟩
/-- the exchange from the other side: x comes in, a thing of l alone goes -/
theorem exc_in {n x : Int} {ls : List (List Int)} {l o : List Int} (s : Smooth n ls) (hl : l ∈ ls) (hxl : ¬ x ∈ l) (ho : o ∈ ls) (hxo : x ∈ o) : ∃ t ∈ l, ¬ t ∈ o ∧ exch l t x ∈ ls := by
  obtain ⟨k, k1, k2, k3, k4⟩ := near_keep s hl hxl _ o ho hxo (Nat.le_refl _)
  have la := s.good.asc l hl
  have ka := s.good.asc k k1
  have e := s.eqs k k1 l hl
  have e1 := gone_len (x := x) ka.nodup
  unfold gone at e1
  rw [List.length_map, if_pos k2] at e1
  have pos := List.length_pos_of_mem k2
  -- some thing of l is not in k
  have out : ∃ t, t ∈ l ∧ ¬ t ∈ k := Classical.byContradiction fun no => by
    have a : ∀ t ∈ l, t ∈ k.filter fun y => !(y == x) := fun t ht => List.mem_filter.mpr ⟨Classical.byContradiction fun z => no ⟨t, ht, z⟩, by simpa using fun z : t = x => hxl (z ▸ ht)⟩
    have := sub_len la.1 (ka.1.filter _) a
    omega
  obtain ⟨t, t1, t2⟩ := out
  have e2 := gone_len (x := t) la.nodup
  unfold gone at e2
  rw [List.length_map, if_pos t1] at e2
  have sub : (k.filter fun y => !(y == x)).Sublist (l.filter fun y => !(y == t)) := asc_sub (ka.1.filter _) (la.1.filter _) fun y hy => by
    obtain ⟨y1, y2⟩ := List.mem_filter.mp hy
    exact List.mem_filter.mpr ⟨k3 y y1 (by simpa using y2), by simpa using fun z : y = t => t2 (z ▸ y1)⟩
  have same := sub.eq_of_length (by rw [e1, e2, e])
  refine ⟨t, t1, fun z => t2 (k4 t z t1), ?_⟩
  have : exch l t x = k := asc_ext (exch_asc la hxl (ka.2 x k2)).1 ka.1 fun y => by
    rw [mem_exch]
    constructor
    · rintro (⟨a, b⟩ | a)
      · have : y ∈ l.filter fun y => !(y == t) := List.mem_filter.mpr ⟨a, by simpa using b⟩
        rw [← same] at this
        exact (List.mem_filter.mp this).1
      · exact a ▸ k2
    · intro h
      by_cases c : y = x
      · exact .inr c
      · exact .inl ⟨k3 y h c, fun z => t2 (z ▸ h)⟩
  rw [this]
  exact k1
theorem rest_exch {n t x : Int} {l : List Int} (h : Asc n l) (hx : ¬ x ∈ l) (hb : 0 ≤ x ∧ x < n) (ht : t ∈ l) : exch (rest n l) x t = rest n (exch l t x) := by
  have htx : ¬ t = x := fun z => hx (z ▸ ht)
  refine asc_ext (exch_asc (rest_asc n l) (fun z => (mem_rest.mp z).2 ht) (h.2 t ht)).1 (rest_asc _ _).1 fun y => ?_
  rw [mem_exch, mem_rest, mem_rest, mem_exch]
  constructor
  · rintro (⟨⟨a, b⟩, c⟩ | a)
    · exact ⟨a, fun z => z.elim (fun z => b z.1) c⟩
    · rw [a]
      exact ⟨h.2 t ht, fun z => z.elim (fun z => z.2 rfl) htx⟩
  · rintro ⟨a, b⟩
    by_cases c : y = t
    · exact .inr c
    · exact .inl ⟨⟨a, fun z => b (.inl ⟨z, c⟩)⟩, fun z => b (.inr z)⟩
theorem mem_opp {n : Int} {ls : List (List Int)} {l : List Int} : l ∈ opp n ls ↔ ∃ k ∈ ls, rest n k = l := by
  unfold opp
  rw [mem_sortT, List.mem_map]
theorem rest_len {n : Int} {l : List Int} (h : Asc n l) : (rest n l).length + l.length = (rangeI 0 n).length := by
  have e : l = (rangeI 0 n).filter fun x => decide (x ∈ l) := asc_ext h.1 ((rangeI_asc 0 n).filter _) fun y => by
    rw [List.mem_filter, mem_rangeI]
    exact ⟨fun z => ⟨h.2 y z, decide_eq_true z⟩, fun z => of_decide_eq_true z.2⟩
  have sp : ∀ (m : List Int) (p : Int → Bool), (m.filter fun y => !p y).length + (m.filter p).length = m.length := fun m p => by
    induction m with
    | nil => rfl
    | cons y m ih =>
      cases q : p y with
      | true => rw [List.filter_cons_of_neg (p := fun y => !p y) (by simp [q]), List.filter_cons_of_pos (p := p) q, List.length_cons, List.length_cons]; omega
      | false => rw [List.filter_cons_of_pos (p := fun y => !p y) (by simp [q]), List.filter_cons_of_neg (p := p) (by simp [q]), List.length_cons, List.length_cons]; omega
  have := sp (rangeI 0 n) fun x => decide (x ∈ l)
  rw [← e] at this
  exact this
theorem Smooth.opp {n : Int} {ls : List (List Int)} (s : Smooth n ls) : Smooth n (opp n ls) := by
  refine ⟨s.good.opp, ?_, ?_⟩
  · intro l' hl' x hx o' ho' nx
    obtain ⟨l, hl, rfl⟩ := mem_opp.mp hl'
    obtain ⟨o, ho, rfl⟩ := mem_opp.mp ho'
    obtain ⟨xb, xl⟩ := mem_rest.mp hx
    have xo : x ∈ o := Classical.byContradiction fun z => nx (mem_rest.mpr ⟨xb, z⟩)
    obtain ⟨t, t1, t2, t3⟩ := exc_in s hl xl ho xo
    refine ⟨t, mem_rest.mpr ⟨(s.good.asc l hl).2 t t1, t2⟩, fun z => (mem_rest.mp z).2 t1, ?_⟩
    rw [rest_exch (s.good.asc l hl) xl xb t1]
    exact mem_opp.mpr ⟨_, t3, rfl⟩
  · intro l' hl' k' hk'
    obtain ⟨l, hl, rfl⟩ := mem_opp.mp hl'
    obtain ⟨k, hk, rfl⟩ := mem_opp.mp hk'
    have a := rest_len (s.good.asc l hl)
    have b := rest_len (s.good.asc k hk)
    have c := s.eqs l hl k hk
    omega
end LW
set_option Elab.async false
set_option maxRecDepth 100000
set_option linter.all false
set_option maxHeartbeats 2000000
namespace LW
open PySem PySem.Spec PyProof.Rows L2 PD
/-- the things of a row in one class -/
def cls (cf : Int → Int) (k : Int) (l : List Int) : Nat := (l.filter fun x => cf x == k).length
def Fit (cf bf : Int → Int) (l : List Int) : Prop := ∀ k, 0 ≤ k → k < 3 → (cls cf k l : Int) ≤ bf k
theorem cls_sum {cf : Int → Int} : ∀ {l : List Int}, (∀ x ∈ l, 0 ≤ cf x ∧ cf x < 3) → l.length = cls cf 0 l + cls cf 1 l + cls cf 2 l
  | [], _ => rfl
  | x :: l, h => by
    have ih := cls_sum (cf := cf) (l := l) fun y hy => h y (List.mem_cons_of_mem _ hy)
    have hx := h x List.mem_cons_self
    have one : ∀ k, cls cf k (x :: l) = cls cf k l + if cf x = k then 1 else 0 := fun k => by
      unfold cls
      by_cases c : cf x = k
      · rw [List.filter_cons_of_pos (by simpa using c), if_pos c, List.length_cons]
      · rw [List.filter_cons_of_neg (by simpa using c), if_neg c]
        rfl
    rw [one, one, one, List.length_cons, ih]
    have : cf x = 0 ∨ cf x = 1 ∨ cf x = 2 := by omega
    rcases this with e | e | e <;> rw [e] <;> simp <;> omega
theorem cls_perm {cf : Int → Int} {k : Int} {l m : List Int} (p : l.Perm m) : cls cf k l = cls cf k m := (p.filter _).length_eq
theorem cls_exch {cf : Int → Int} {k x t : Int} {l : List Int} : cls cf k (exch l x t) = cls cf k (l.filter fun y => !(y == x)) + if cf t = k then 1 else 0 := by
  have p : (exch l x t).Perm (l.filter (fun y => !(y == x)) ++ [t]) := (sortD_ints _).2
  rw [cls_perm p]
  unfold cls
  rw [List.filter_append, List.length_append]
  congr 1
  by_cases c : cf t = k
  · rw [if_pos c, List.filter_cons_of_pos (by simpa using c)]
    rfl
  · rw [if_neg c, List.filter_cons_of_neg (by simpa using c)]
    rfl
theorem exch_len {x t : Int} {l : List Int} (nd : l.Nodup) (hx : x ∈ l) : (exch l x t).length = l.length := by
  have p : (exch l x t).Perm (l.filter (fun y => !(y == x)) ++ [t]) := (sortD_ints _).2
  have e := gone_len (x := x) nd
  unfold gone at e
  rw [List.length_map, if_pos hx] at e
  have pos := List.length_pos_of_mem hx
  rw [p.length_eq, List.length_append, e]
  show l.length - 1 + 1 = l.length
  omega
theorem fit_exc {n x : Int} {cf bf : Int → Int} {l o : List Int} (hc : ∀ x, 0 ≤ x → x < n → 0 ≤ cf x ∧ cf x < 3) (la : Asc n l) (oa : Asc n o) (lf : Fit cf bf l) (of : Fit cf bf o) (e : l.length = o.length) (hx : x ∈ l) (nx : ¬ x ∈ o) :
    ∃ t ∈ o, ¬ t ∈ l ∧ Asc n (exch l x t) ∧ Fit cf bf (exch l x t) ∧ (exch l x t).length = l.length := by
  have cr : ∀ {m : List Int}, Asc n m → ∀ y ∈ m, 0 ≤ cf y ∧ cf y < 3 := fun {m} ma y hy => hc y (ma.2 y hy).1 (ma.2 y hy).2
  have g := gone_len (x := x) la.nodup
  unfold gone at g
  rw [List.length_map, if_pos hx] at g
  have pos := List.length_pos_of_mem hx
  have s1 := cls_sum (cf := cf) (cr oa)
  have s2 := cls_sum (cf := cf) (l := l.filter fun y => !(y == x)) fun y hy => cr la y (List.mem_filter.mp hy).1
  have more : ∃ k, (0 ≤ k ∧ k < 3) ∧ cls cf k (l.filter fun y => !(y == x)) < cls cf k o := by
    by_cases a : cls cf 0 (l.filter fun y => !(y == x)) < cls cf 0 o
    · exact ⟨0, by omega, a⟩
    · by_cases b : cls cf 1 (l.filter fun y => !(y == x)) < cls cf 1 o
      · exact ⟨1, by omega, b⟩
      · exact ⟨2, by omega, by omega⟩
  obtain ⟨k, hk, lt⟩ := more
  have new : ∃ t ∈ o, cf t = k ∧ ¬ t ∈ l.filter fun y => !(y == x) := Classical.byContradiction fun no => by
    have : cls cf k o ≤ cls cf k (l.filter fun y => !(y == x)) := sub_len (oa.1.filter _) ((la.1.filter _).filter _) fun y hy => by
      obtain ⟨y1, y2⟩ := List.mem_filter.mp hy
      exact List.mem_filter.mpr ⟨Classical.byContradiction fun z => no ⟨y, y1, by simpa using y2, z⟩, y2⟩
    omega
  obtain ⟨t, t1, t2, t3⟩ := new
  have tl : ¬ t ∈ l := fun z => t3 (List.mem_filter.mpr ⟨z, by simpa using fun e : t = x => nx (e ▸ t1)⟩)
  refine ⟨t, t1, tl, exch_asc la tl (oa.2 t t1), fun j j0 j1 => ?_, exch_len la.nodup hx⟩
  rw [cls_exch]
  by_cases c : cf t = j
  · rw [if_pos c]
    have := of j j0 j1
    rw [← c, t2] at this ⊢
    omega
  · rw [if_neg c]
    have a := lf j j0 j1
    have : cls cf j (l.filter fun y => !(y == x)) ≤ cls cf j l := sub_len ((la.1.filter _).filter _) (la.1.filter _) fun y hy => by
      obtain ⟨y1, y2⟩ := List.mem_filter.mp hy
      exact List.mem_filter.mpr ⟨(List.mem_filter.mp y1).1, y2⟩
    omega
/-- a part of a row that fits does -/
theorem fit_take {cf bf : Int → Int} {l : List Int} (h : Fit cf bf l) (m : Nat) : Fit cf bf (l.take m) := fun k k0 k1 => by
  have a := h k k0 k1
  have b : cls cf k (l.take m) ≤ cls cf k l := ((List.take_sublist m l).filter _).length_le
  omega
theorem asc_take {n : Int} {l : List Int} (h : Asc n l) (m : Nat) : Asc n (l.take m) := ⟨h.1.sublist (List.take_sublist m l), fun x hx => h.2 x (List.mem_of_mem_take hx)⟩
end LW
set_option Elab.async false
set_option maxRecDepth 100000
set_option linter.all false
set_option maxHeartbeats 2000000
namespace LW
open PySem PySem.Spec PyProof.Rows L2 PD
/-- what is kept and what is still to come stand in order -/
def Run (R : List Int → List Int → Prop) (kept xs : List (List Int)) : Prop := kept.Pairwise R ∧ xs.Pairwise R ∧ ∀ a ∈ kept, ∀ b ∈ xs, R a b
theorem Run.keep {R : List Int → List Int → Prop} {x : List Int} {kept xs : List (List Int)} (h : Run R kept (x :: xs)) : Run R (kept ++ [x]) xs := by
  obtain ⟨h1, h2, h3⟩ := h
  obtain ⟨h4, h5⟩ := List.pairwise_cons.mp h2
  refine ⟨List.pairwise_append.mpr ⟨h1, List.pairwise_singleton _ _, fun a ha b hb => ?_⟩, h5, fun a ha b hb => ?_⟩
  · rw [List.mem_singleton.mp hb]
    exact h3 a ha x List.mem_cons_self
  · rcases List.mem_append.mp ha with z | z
    · exact h3 a z b (List.mem_cons_of_mem _ hb)
    · rw [List.mem_singleton.mp z]
      exact h4 b hb
theorem Run.skip {R : List Int → List Int → Prop} {x : List Int} {kept xs : List (List Int)} (h : Run R kept (x :: xs)) : Run R kept xs := ⟨h.1, (List.pairwise_cons.mp h.2.1).2, fun a ha b hb => h.2.2 a ha b (List.mem_cons_of_mem _ hb)⟩
theorem Run.start {R : List Int → List Int → Prop} {xs : List (List Int)} (h : xs.Pairwise R) : Run R [] xs := ⟨.nil, h, fun a ha => by cases ha⟩
theorem v_parts2 (n : Int) (h0 : 0 ≤ n) (h1 : n ≤ 12) : ∃ rows : List (List Int), m_law_parts_of [.int n] = .ok (lt rows) ∧ (∀ r, r ∈ rows ↔ Asc n r) ∧ rows.length = 2 ^ n.toNat ∧ Asd rows := by
  show ∃ rows : List (List Int), endR (g_law_parts_of [some (.d (.int n)), none, none, none]) = _ ∧ _
  have key := forGo_inv (i := 2) (g := b_law_parts_of_1) (enc := PyData.int) (fun xs ρ => ∃ (k : Int) (rows : List (List Int)) (o2 : Option Sl),
    xs = rangeI k n ∧ 0 ≤ k ∧ k ≤ n ∧ ρ = [some (.d (.int n)), some (.d (lt rows)), o2, none] ∧ (∀ r, r ∈ rows ↔ Asc k r) ∧ rows.length = 2 ^ k.toNat ∧ rows.Nodup) (by
    rintro x xs ρ ⟨k, rows, o2, hx, hk, hkn, rfl, hr, hz, hd⟩
    obtain ⟨hk1, rfl, rfl⟩ := rangeI_inv hx
    have hp : 2 ^ x.toNat ≤ 2 ^ 12 := Nat.pow_le_pow_right (by decide) (by omega)
    have e1 : lcR (fun _ => R.ok true) (fun r : List Int => oAdd (tu r) (tu [x])) rows = .ok (rows.map fun r => tu (r ++ [x])) := lcR_mem fun r hm => oAdd_tu (by have := ((hr r).mp hm).len; simp; omega)
    have e2 : oAdd (lt rows) (lt (rows.map fun r => r ++ [x])) = .ok (lt (rows ++ rows.map fun r => r ++ [x])) := oAdd_lt (by rw [List.length_map, hz]; omega)
    refine ⟨[some (.d (.int n)), some (.d (lt (rows ++ rows.map fun r => r ++ [x]))), some (.d (.int x)), none], ?_, x + 1, _, _, rfl, by omega, by omega, rfl, fun r => ?_, ?_, ?_⟩
    · simp [b_law_parts_of_1, e1, e2]
    · rw [List.mem_append, List.mem_map, asc_succ hk, hr r]
      constructor
      · rintro (h | ⟨a, ha, rfl⟩)
        · exact .inl h
        · exact .inr ⟨a, (hr a).mp ha, rfl⟩
      · rintro (h | ⟨a, ha, rfl⟩)
        · exact .inl h
        · exact .inr ⟨a, (hr a).mpr ha, rfl⟩
    · rw [List.length_append, List.length_map, hz, show (x + 1).toNat = x.toNat + 1 by omega, Nat.pow_succ]; omega
    · rw [List.nodup_append]
      refine ⟨hd, List.pairwise_map.mpr (hd.imp fun {a b} ne e => ne (List.append_cancel_right e)), fun a ha b hb e => ?_⟩
      obtain ⟨c, _, rfl⟩ := List.mem_map.mp hb
      have := ((hr a).mp ha).2 x (by rw [e]; simp)
      omega)
  have hi : ∀ r : List Int, r ∈ [[]] ↔ Asc 0 r := fun r => by
    constructor
    · intro h
      rw [List.mem_singleton.mp h]; exact Asc.nil _
    · intro h
      have := h.len
      have : r.length = 0 := by simpa using this
      rw [List.length_eq_zero_iff.mp this]; simp
  obtain ⟨ρ', e, k, rows, o2, hx, hk, hkn, rfl, hr, hz, hd⟩ := key (rangeI 0 n) [some (.d (.int n)), some (.d (lt [[]])), none, none] ⟨0, [[]], none, rfl, by omega, h0, rfl, hi, rfl, by simp⟩
  · have ek : k = n := by
      by_cases h : k < n
      · rw [rangeI_cons h] at hx; cases hx
      · omega
    subst ek
    have hp : 2 ^ k.toNat ≤ 2 ^ 12 := Nat.pow_le_pow_right (by decide) (by omega)
    refine ⟨sortT rows, ?_, fun r => mem_sortT.trans (hr r), ?_, asd_sortT hd⟩
    · simp [g_law_parts_of, rngA1_ok (show k ≤ 100000 by omega) (show -1000 ≤ k by omega), e]
    · rw [(sortT_perm rows).length_eq, hz]
end LW
set_option Elab.async false
set_option maxRecDepth 100000
set_option linter.all false
set_option maxHeartbeats 2000000
namespace LW
open PySem PySem.Spec PyProof.Rows L2 PD
theorem v_smooth2 (c n : Int) (h0 : 0 ≤ n) (h1 : n ≤ 9) : ∃ ks : List (List Int), m_law_smooth_lots [.int c, .int n] = .ok (tt ks) ∧ Smooth n ks := by
  show ∃ ks : List (List Int), endR (g_law_smooth_lots [some (.d (.int c)), some (.d (.int n)), none, none, none, none, none, none, none, none, none]) = _ ∧ _
  obtain ⟨L, e1, hL, bL⟩ := v_draws c (3 + n) (by omega) (by omega)
  have hLn : (L.length : Int) = 3 + n := by rw [hL]; omega
  obtain ⟨rows, e2, hr, hz2, hs⟩ := v_parts2 n h0 (by omega)
  have hz : rows.length ≤ 512 := by
    rw [hz2]
    have hp : 2 ^ n.toNat ≤ 2 ^ 9 := Nat.pow_le_pow_right (by decide) (by omega)
    omega
  have e30 := ix_li (L := L) (i := 0) (by decide) (by omega)
  have e31 := ix_li (L := L) (i := 1) (by decide) (by omega)
  have e32 := ix_li (L := L) (i := 2) (by decide) (by omega)
  generalize hcl : (rangeI 0 n).map (fun k => (ixv L (3 + k)).fmod 3) = cl
  have lcl : (cl.length : Int) = n := by rw [← hcl, List.length_map, rangeI_len]; omega
  generalize hb0 : 1 + (ixv L 1).fmod 2 = B0
  generalize hb1 : 1 + ((ixv L 1).fdiv 2).fmod 2 = B1
  generalize hb2 : ((ixv L 1).fdiv 4).fmod 3 = B2
  have er := rngA1_ok (n := n) (by omega) (by omega)
  have er3 := rngA1_ok (n := 3) (by decide) (by decide)
  let fit : List Int → Bool := fun row => (rangeI 0 3).all fun k => decide (((row.filter fun x => ixv cl x == k).length : Int) ≤ ixv [B0, B1, B2] k)
  have key := forGo_inv (i := 6) (g := b_law_smooth_lots_1) (enc := tu) (fun xs ρ => ∃ (kept : List (List Int)) (o6 : Option Sl), ρ = [some (.d (.int c)), some (.d (.int n)), some (.d (li L)), some (.d (li cl)), some (.d (li [B0, B1, B2])), some (.own (kept.map tu)), o6, none, none, none, none] ∧
      (∀ x ∈ xs, Asc n x) ∧ kept.length + xs.length ≤ 512 ∧ (∀ x ∈ kept, Asc n x) ∧ (∀ r, Asc n r → fit r = true → r ∈ kept ∨ r ∈ xs) ∧ Run (fun a b => HT.lexLt a b = true) kept xs ∧ ∀ r ∈ kept, fit r = true) (by
    rintro x xs ρ ⟨kept, o6, rfl, hx, hl, hk, hf, hR, hF⟩
    have hl' : kept.length + (xs.length + 1) ≤ 512 := by simpa using hl
    have hs : kept.length < sizeLine := line_lt (by omega)
    have hxa := hx x List.mem_cons_self
    have et : lcR (fun _ => R.ok true) (fun k : Int => m_law_count [tu x, li cl, .int k] >>= fun a => oIx (li [B0, B1, B2]) (.int k) >>= fun b => oLe a b) (rangeI 0 3) = .ok ((rangeI 0 3).map fun k => PyData.bool (decide (((x.filter fun y => ixv cl y == k).length : Int) ≤ ixv [B0, B1, B2] k))) := lcR_mem fun k hk => by
      obtain ⟨k1, k2⟩ := mem_rangeI.mp hk
      simp [v_count x cl k (fun y hy => by have := hxa.2 y hy; omega), ix_li (L := [B0, B1, B2]) (i := k) k1 (by simpa using k2)]
    by_cases hb : fit x = true
    · refine ⟨[some (.d (.int c)), some (.d (.int n)), some (.d (li L)), some (.d (li cl)), some (.d (li [B0, B1, B2])), some (.own ((kept ++ [x]).map tu)), some (.d (tu x)), none, none, none, none], ?_, kept ++ [x], _, rfl, fun y hy => hx y (List.mem_cons_of_mem _ hy), by simp; omega, fun y hy => ?_, fun r ha hr => ?_, hR.keep, fun r hr => (List.mem_append.mp hr).elim (hF r) fun z => by rw [List.mem_singleton.mp z]; exact hb⟩
      · have hb' : ∀ k ∈ rangeI 0 3, ((x.filter fun y => ixv cl y == k).length : Int) ≤ ixv [B0, B1, B2] k := by simpa [fit] using hb
        simp [b_law_smooth_lots_1, er3, et, hs]
        exact hb'
      · rcases List.mem_append.mp hy with hy | hy
        · exact hk y hy
        · rw [List.mem_singleton.mp hy]; exact hxa
      · rcases hf r ha hr with h | h
        · exact .inl (List.mem_append_left _ h)
        · rcases List.mem_cons.mp h with rfl | h
          · exact .inl (by simp)
          · exact .inr h
    · refine ⟨[some (.d (.int c)), some (.d (.int n)), some (.d (li L)), some (.d (li cl)), some (.d (li [B0, B1, B2])), some (.own (kept.map tu)), some (.d (tu x)), none, none, none, none], ?_, kept, _, rfl, fun y hy => hx y (List.mem_cons_of_mem _ hy), by omega, hk, fun r ha hr => ?_, hR.skip, hF⟩
      rotate_left
      · rcases hf r ha hr with h | h
        · exact .inl h
        · rcases List.mem_cons.mp h with rfl | h
          · exact absurd hr hb
          · exact .inr h
      have hb' : ¬ ∀ k ∈ rangeI 0 3, ((x.filter fun y => ixv cl y == k).length : Int) ≤ ixv [B0, B1, B2] k := fun h => hb (by simpa [fit] using h)
      simp [b_law_smooth_lots_1, er3, et, hs]
      refine Classical.byContradiction fun hc => hb' fun k hk2 => ?_
      exact Classical.byContradiction fun hn => hc ⟨k, hk2, by omega⟩)
  obtain ⟨ρ', e, kept, o6, rfl, _, hl, hk, hf, hR, hF⟩ := key rows [some (.d (.int c)), some (.d (.int n)), some (.d (li L)), some (.d (li cl)), some (.d (li [B0, B1, B2])), some (.own []), none, none, none, none, none]
    ⟨[], none, rfl, fun x hx => (hr x).mp hx, by simpa using hz, by simp, fun r ha _ => .inr ((hr r).mpr ha), Run.start hs, by simp⟩
  have hB0 : 0 ≤ B0 := by have := fmod_lo (ixv L 1) (b := 2) (by decide); omega
  have hB1 : 0 ≤ B1 := by have := fmod_lo ((ixv L 1).fdiv 2) (b := 2) (by decide); omega
  have hB2 : 0 ≤ B2 := by have := fmod_lo ((ixv L 1).fdiv 4) (b := 3) (by decide); omega
  have fit0 : fit [] = true := by
    show ((rangeI 0 3).all fun k => decide (((([] : List Int).filter fun x => ixv cl x == k).length : Int) ≤ ixv [B0, B1, B2] k)) = true
    rw [List.all_eq_true]
    intro k hk2
    obtain ⟨k1, k2⟩ := mem_rangeI.mp hk2
    have this : ixv [B0, B1, B2] k ∈ [B0, B1, B2] := ixv_mem k1 (by simpa using k2)
    simp only [List.mem_cons, List.not_mem_nil, or_false] at this
    refine decide_eq_true ?_
    show (0 : Int) ≤ _
    rcases this with h | h | h <;> omega
  have hne : kept ≠ [] := fun z => by
    rcases hf [] (Asc.nil n) fit0 with h | h
    · rw [z] at h; cases h
    · cases h
  have hmx := bMax_li (l := kept.map fun r => (r.length : Int)) (by simpa using hne)
  generalize hM : maxI (kept.map fun r => (r.length : Int)) = M at hmx
  have f8a := fmod_lo (ixv L 0) (b := 8) (by decide)
  have f8b := fmod_hi (ixv L 0) (b := 8) (by decide)
  have e8 := ix_tu (L := [2, 1, 2, 3, 2, 1, 3, 0]) (i := (ixv L 0).fmod 8) f8a (by simpa using f8b)
  have mT : ixv [2, 1, 2, 3, 2, 1, 3, 0] ((ixv L 0).fmod 8) ∈ [2, 1, 2, 3, 2, 1, 3, 0] := ixv_mem f8a (by simpa using f8b)
  generalize ixv [2, 1, 2, 3, 2, 1, 3, 0] ((ixv L 0).fmod 8) = T at e8 mT
  generalize hC : (if T < M then T else M) = C
  have hT : 0 ≤ T := by
    simp only [List.mem_cons, List.not_mem_nil, or_false] at mT
    omega
  have hmm : ∃ top ∈ kept, (top.length : Int) = M := by
    have := maxI_mem (ns := kept.map fun r => (r.length : Int)) (by rw [List.length_map]; exact List.length_pos_iff.mpr hne)
    rw [hM] at this
    exact List.mem_map.mp this
  have hfit : ∀ r : List Int, fit r = true ↔ Fit (fun x => ixv cl x) (fun k => ixv [B0, B1, B2] k) r := fun r => by
    show ((rangeI 0 3).all fun k => decide (((r.filter fun x => ixv cl x == k).length : Int) ≤ ixv [B0, B1, B2] k)) = true ↔ _
    rw [List.all_eq_true]
    constructor
    · intro z k k0 k1
      exact of_decide_eq_true (z k (mem_rangeI.mpr ⟨k0, k1⟩))
    · intro z k hk
      exact decide_eq_true (z k (mem_rangeI.mp hk).1 (mem_rangeI.mp hk).2)
  have hcr : ∀ x, 0 ≤ x → x < n → 0 ≤ ixv cl x ∧ ixv cl x < 3 := fun x x0 x1 => by
    have m : ixv cl x ∈ cl := ixv_mem x0 (by omega)
    generalize ixv cl x = u at m ⊢
    rw [← hcl] at m
    obtain ⟨k, _, rfl⟩ := List.mem_map.mp m
    exact ⟨fmod_lo _ (by decide), fmod_hi _ (by decide)⟩
  have mem : ∀ r, r ∈ (kept.filter fun r => (r.length : Int) == C) ↔ Asc n r ∧ fit r = true ∧ (r.length : Int) = C := fun r => by
    rw [List.mem_filter]
    constructor
    · rintro ⟨a, b⟩
      exact ⟨hk r a, hF r a, by simpa using b⟩
    · rintro ⟨a, b, d⟩
      exact ⟨(hf r a b).elim id (fun z => by cases z), by simpa using d⟩
  have base : Smooth n (kept.filter fun r => (r.length : Int) == C) := by
    refine ⟨⟨fun l hl => ((mem l).mp hl).1, (hR.1 : Asd kept).filter _, fun z => ?_, ?_⟩, fun l hl x hx o ho nx => ?_, fun l hl k hk2 => ?_⟩
    · obtain ⟨top, t1, t2⟩ := hmm
      have c0 : 0 ≤ C ∧ C ≤ top.length := by
        rw [← hC]
        split <;> omega
      have : top.take C.toNat ∈ (kept.filter fun r => (r.length : Int) == C) := (mem _).mpr ⟨asc_take (hk top t1) _, (hfit _).mpr (fit_take ((hfit _).mp (hF top t1)) _), by rw [List.length_take]; omega⟩
      rw [z] at this
      cases this
    · have a := List.length_filter_le (fun r : List Int => (r.length : Int) == C) kept
      have : kept.length ≤ 512 := by simpa using hl
      omega
    · obtain ⟨la, lf, ll⟩ := (mem l).mp hl
      obtain ⟨oa, of, ol⟩ := (mem o).mp ho
      obtain ⟨t, t1, t2, t3, t4, t5⟩ := fit_exc hcr la oa ((hfit l).mp lf) ((hfit o).mp of) (by omega) hx nx
      exact ⟨t, t1, t2, (mem _).mpr ⟨t3, (hfit _).mpr t4, by rw [t5]; exact ll⟩⟩
    · have a := ((mem l).mp hl).2.2
      have b := ((mem k).mp hk2).2.2
      omega
  have hrest : ∀ ls : List (List Int), lcR (fun _ => R.ok true) (fun l => m_law_rest [tu l, .int n]) ls = .ok (ls.map fun l => tu ((rangeI 0 n).filter fun x => !decide (x ∈ l))) := fun ls => lcR_mem fun l _ => v_rest l n h0 (by omega)
  by_cases h3 : (ixv L 2).fmod 3 = 1
  · refine ⟨sortT ((kept.filter fun r => (r.length : Int) == C).map fun l => (rangeI 0 n).filter fun x => !decide (x ∈ l)), ?_, ?_⟩
    · simp [g_law_smooth_lots, e1, er]
      rw [lcR_mem (g := fun k => PyData.int ((ixv L (3 + k)).fmod 3))]
      · simp [e2, e30, e31, e32, hcl, oMod_int, oDiv_lit, hb0, hb1, hb2, e, hmx, e8, hC, h3, hrest]
      · intro k hk3
        obtain ⟨k1, k2⟩ := mem_rangeI.mp hk3
        simp [ix_li (L := L) (i := 3 + k) (by omega) (by omega), oMod_int]
    · exact base.opp
  · refine ⟨kept.filter fun r => (r.length : Int) == C, ?_, base⟩
    simp [g_law_smooth_lots, e1, er]
    rw [lcR_mem (g := fun k => PyData.int ((ixv L (3 + k)).fmod 3))]
    · simp [e2, e30, e31, e32, hcl, oMod_int, oDiv_lit, hb0, hb1, hb2, e, hmx, e8, hC, h3, hrest]
    · intro k hk3
      obtain ⟨k1, k2⟩ := mem_rangeI.mp hk3
      simp [ix_li (L := L) (i := 3 + k) (by omega) (by omega), oMod_int]
end LW
set_option Elab.async false
set_option maxRecDepth 100000
set_option linter.all false
set_option maxHeartbeats 2000000
namespace LW
open PySem PySem.Spec PyProof.Rows L2 PD
def Road (p : Int) (r : List Int) : Prop := ∃ a b : Int, r = [a, b] ∧ (0 ≤ a ∧ a < p) ∧ (0 ≤ b ∧ b < p)
structure Lab (p : Int) (lab : List Int) : Prop where
  len : (lab.length : Int) = p
  bnd : ∀ v ∈ lab, 0 ≤ v ∧ v < p
theorem Lab.start {p : Int} (h : 0 ≤ p) : Lab p (rangeI 0 p) := ⟨by rw [rangeI_len]; omega, fun v hv => mem_rangeI.mp hv⟩
theorem Road.at {p : Int} {r : List Int} (h : Road p r) : (0 ≤ ixv r 0 ∧ ixv r 0 < p) ∧ (0 ≤ ixv r 1 ∧ ixv r 1 < p) := by
  obtain ⟨a, b, rfl, ha, hb⟩ := h
  exact ⟨ha, hb⟩
end LW
set_option Elab.async false
set_option maxRecDepth 100000
set_option linter.all false
set_option maxHeartbeats 2000000
set_option Elab.async false
set_option maxRecDepth 100000
set_option linter.all false
set_option maxHeartbeats 2000000
namespace LW
open PySem PySem.Spec PyProof.Rows L2 PD
theorem lcGo_of {α : Type} {enc : α → PyData} {t : Tg} {ft : DnB} {fe : Dn} {ρ : Rho} {st : α → Rho} {q : α → Bool} {g : α → PyData} : ∀ {xs : List α}, (∀ x ∈ xs, t.set (enc x) ρ = some (st x) ∧ ft (st x) = .ok (q x) ∧ (q x = true → fe (st x) = .ok (g x))) → lcGo t ft fe ρ (xs.map enc) = .ok ((xs.filter q).map g)
  | [], _ => rfl
  | x :: xs, h => by
    obtain ⟨h1, h2, h3⟩ := h x List.mem_cons_self
    have ih := lcGo_of (xs := xs) fun y hy => h y (List.mem_cons_of_mem _ hy)
    rw [List.map_cons]
    unfold lcGo
    rw [h1]
    dsimp only
    rw [h2, nx_ok', ih]
    cases e : q x with
    | false => simp [e]
    | true => rw [h3 e]; simp [e]
theorem lc_of {α : Type} {enc : α → PyData} {fi : DnL} {t : Tg} {ft : DnB} {fe : Dn} {vs : List Nat} {ρ : Rho} {xs : List α} {st : α → Rho} {q : α → Bool} {g : α → PyData} (hi : fi ρ = .ok (xs.map enc)) (h : ∀ x ∈ xs, t.set (enc x) (wipeR ρ vs) = some (st x) ∧ ft (st x) = .ok (q x) ∧ (q x = true → fe (st x) = .ok (g x))) :
    dLc fi t ft fe vs ρ = .ok (.list ((xs.filter q).map g)) := by
  unfold dLc
  rw [hi, R.bind_ok, lcGo_of h]
  rfl
theorem lc2Go_of {α : Type} {enc : α → PyData} {t : Tg} {ft : DnB} {fi1 : DnL} {t1 : Tg} {ft1 : DnB} {fe : Dn} {vs1 : List Nat} {ρ : Rho} {st : α → Rho} {q : α → Bool} {es : α → List PyData} {ys : α → List PyData} : ∀ {xs : List α}, (∀ x ∈ xs, t.set (enc x) ρ = some (st x) ∧ ft (st x) = .ok (q x) ∧ (q x = true → fi1 (st x) = .ok (es x) ∧ lcGo t1 ft1 fe (wipeR (st x) vs1) (es x) = .ok (ys x))) →
    lc2Go t ft fi1 t1 ft1 fe vs1 ρ (xs.map enc) = .ok ((xs.filter q).flatMap ys)
  | [], _ => rfl
  | x :: xs, h => by
    obtain ⟨h1, h2, h3⟩ := h x List.mem_cons_self
    have ih := lc2Go_of (xs := xs) fun y hy => h y (List.mem_cons_of_mem _ hy)
    rw [List.map_cons]
    unfold lc2Go
    rw [h1]
    dsimp only
    rw [h2, nx_ok', ih]
    cases e : q x with
    | false => simp [e]
    | true =>
      obtain ⟨a, b⟩ := h3 e
      rw [a, nx_ok', b]
      simp [e]
theorem lc2_of {α : Type} {enc : α → PyData} {fi : DnL} {t : Tg} {ft : DnB} {fi1 : DnL} {t1 : Tg} {ft1 : DnB} {fe : Dn} {vs vs1 : List Nat} {ρ : Rho} {xs : List α} {st : α → Rho} {q : α → Bool} {es : α → List PyData} {ys : α → List PyData} (hi : fi ρ = .ok (xs.map enc))
    (h : ∀ x ∈ xs, t.set (enc x) (wipeR ρ vs) = some (st x) ∧ ft (st x) = .ok (q x) ∧ (q x = true → fi1 (st x) = .ok (es x) ∧ lcGo t1 ft1 fe (wipeR (st x) vs1) (es x) = .ok (ys x))) (hz : ((xs.filter q).flatMap ys).length ≤ 100000) :
    dLc2 fi t ft fi1 t1 ft1 fe vs vs1 ρ = .ok (.list ((xs.filter q).flatMap ys)) := by
  unfold dLc2
  rw [hi, R.bind_ok, lc2Go_of h, nx_ok', if_pos (by rw [sizeLine_eq]; omega)]
def idx {α : Type} (k : Int) : List α → List (Int × α)
  | [] => []
  | x :: xs => (k, x) :: idx (k + 1) xs
def encI {α : Type} (enc : α → PyData) (p : Int × α) : PyData := .tuple [.int p.1, enc p.2]
theorem enumF_map {α : Type} (enc : α → PyData) : ∀ (k : Int) (xs : List α), enumF k (xs.map enc) = (idx k xs).map (encI enc)
  | _, [] => rfl
  | k, x :: xs => by
    show _ :: _ = _ :: _
    rw [enumF_map enc (k + 1) xs]
    rfl
@[simp] theorem ev_enum (g : DnL) (ρ : Rho) : dEnum g ρ = (g ρ >>= enumA) := rfl
@[simp] theorem enumA_1 (d : PyData) : enumA [d] = (items d >>= fun ds => .ok (enumF 0 ds)) := rfl
@[simp] theorem ev_zip (g : DnL) (ρ : Rho) : dZip g ρ = (g ρ >>= zipA) := rfl
@[simp] theorem zipA_2 (d e : PyData) : zipA [d, e] = (items d >>= fun ds => items e >>= fun es => .ok (zipD ds es)) := rfl
def bestF {α : Type} (key : α → Int) : List α → α → α
  | [], b => b
  | y :: ys, b => bestF key ys (if key y < key b then y else b)
/-- the first one of the least -/
def best {α : Type} (key : α → Int) : List α → Option α
  | [] => none
  | x :: xs => some (bestF key xs x)
@[simp] theorem ev_setAt (i : Nat) (fi fe : Dn) (ρ : Rho) : gSetAt i fi fe ρ = oR (fe ρ) ρ fun y => ownA ρ[i]? fun ds => match fi ρ with
  | .ok (.int k) => match ixN ds.length k with
    | some j => .nx (ρ.set i (some (.own (ds.set j y))))
    | none => .bad
  | _ => .bad := rfl
@[simp] theorem oEq_li (a b : List Int) : oEq (li a) (li b) = .ok (.bool (decide (a = b))) := by simp [oEq]
@[simp] theorem oNe_li (a b : List Int) : oNe (li a) (li b) = .ok (.bool (!decide (a = b))) := by simp [oNe]
@[simp] theorem oEq_lt (a b : List (List Int)) : oEq (lt a) (lt b) = .ok (.bool (decide (a = b))) := by simp [oEq]
@[simp] theorem oNe_lt (a b : List (List Int)) : oNe (lt a) (lt b) = .ok (.bool (!decide (a = b))) := by simp [oNe]
end LW
set_option Elab.async false
set_option maxRecDepth 100000
set_option linter.all false
set_option maxHeartbeats 2000000
namespace LW
open PySem PySem.Spec PyProof.Rows L2 PD
@[simp] theorem oPow_10_30 : oPow (.int 10) (.int 30) = .ok (.int 1000000000000000000000000000000) := by
  have h : CPow 10 30 := ⟨by decide, by decide, by decide⟩
  show (if CPow 10 30 then R.ok (PyData.int (10 ^ (30 : Int).toNat)) else .bad) = _
  rw [if_pos h]; rfl
end LW
set_option Elab.async false
set_option maxRecDepth 100000
set_option linter.all false
set_option maxHeartbeats 2000000
namespace LW
open PySem PySem.Spec PyProof.Rows L2 PD
structure Pl where
  ls : List (List Int)
  C : List (List Int)
  w : Int
def plx (ps : List Pl) (i : Int) : Pl := (ps[i.toNat]?).getD ⟨[], [], 0⟩
/-- the sum of the weights of those whose lot has x -/
def wlz (zs : List (Pl × List Int)) (x : Int) : Int := (zs.map fun z => if x ∈ z.2 then z.1.w else 0).sum
def wl (ps : List Pl) (ch : List (List Int)) (x : Int) : Int := wlz (ps.zip ch) x
def cost (C : List (List Int)) (x k : Int) : Int := ixv (ixr C x) (k - 1)
structure Play (n : Int) (ps : List Pl) : Prop where
  n0 : 0 ≤ n
  n1 : n ≤ 900
  good : ∀ p ∈ ps, Good n p.ls
  rows : ∀ p ∈ ps, (p.C.length : Int) = n
  room : ∀ p ∈ ps, ∀ r ∈ p.C, (ps.map fun p => p.w).sum ≤ (r.length : Int)
  w1 : ∀ p ∈ ps, 1 ≤ p.w
structure Chs (ps : List Pl) (ch : List (List Int)) : Prop where
  len : ch.length = ps.length
  mem : ∀ i, 0 ≤ i → i < (ps.length : Int) → ixr ch i ∈ (plx ps i).ls
theorem plx_mem {ps : List Pl} {i : Int} (h0 : 0 ≤ i) (h1 : i < (ps.length : Int)) : plx ps i ∈ ps := by
  have hl : i.toNat < ps.length := by omega
  unfold plx
  rw [List.getElem?_eq_getElem hl]
  exact List.getElem_mem hl
theorem Chs.asc {n : Int} {ps : List Pl} {ch : List (List Int)} (P : Play n ps) (c : Chs ps ch) : ∀ l ∈ ch, Asc n l := fun l hl => by
  obtain ⟨j, hj, e⟩ := List.getElem_of_mem hl
  have := c.len
  have m := c.mem j (by omega) (by omega)
  have e2 : ixr ch j = l := by
    unfold ixr
    rw [show ((j : Int)).toNat = j by omega, List.getElem?_eq_getElem hj, e]; rfl
  rw [e2] at m
  exact (P.good _ (plx_mem (by omega) (by omega))).asc l m
def opr (ps : List Pl) (ch : List (List Int)) (i x : Int) : Int := cost (plx ps i).C x (wl ps ch x + if x ∈ ixr ch i then 0 else (plx ps i).w)
end LW
set_option Elab.async false
set_option maxRecDepth 100000
set_option linter.all false
set_option maxHeartbeats 2000000
namespace LW
open PySem PySem.Spec PyProof.Rows L2 PD
/-- rows of one length whose entries don't fall -/
def Rows (n m : Int) (C : List (List Int)) : Prop := (C.length : Int) = n ∧ ∀ r ∈ C, (r.length : Int) = m ∧ r.Pairwise (· ≤ ·)
end LW
set_option Elab.async false
set_option maxRecDepth 100000
set_option linter.all false
set_option maxHeartbeats 2000000
set_option Elab.async false
set_option maxRecDepth 100000
set_option linter.all false
set_option maxHeartbeats 2000000
namespace LW
open PySem PySem.Spec PyProof.Rows L2 PD
/-- the own prices -/
def own (n : Int) (ps : List Pl) (ch : List (List Int)) (i : Int) : List Int := (rangeI 0 n).map (opr ps ch i)
end LW
set_option Elab.async false
set_option linter.all false
set_option maxRecDepth 100000
set_option maxHeartbeats 4000000
set_option Elab.async false
set_option maxRecDepth 100000
set_option linter.all false
set_option maxHeartbeats 2000000
set_option Elab.async false
set_option maxRecDepth 100000
set_option linter.all false
set_option maxHeartbeats 2000000
set_option Elab.async false
set_option linter.all false
set_option maxRecDepth 100000
set_option maxHeartbeats 4000000
set_option Elab.async false
set_option maxRecDepth 100000
set_option linter.all false
set_option maxHeartbeats 2000000
set_option Elab.async false
set_option linter.all false
set_option maxRecDepth 100000
set_option maxHeartbeats 4000000
set_option Elab.async false
set_option maxRecDepth 100000
set_option linter.all false
set_option maxHeartbeats 2000000
namespace LW
open PySem PySem.Spec PyProof.Rows L2 PD
def addC (cs : List (List (List Int))) (ls : List (List Int)) : List (List (List Int)) := cs.flatMap fun c => ls.map fun l => c ++ [l]
def foldC (ps : List Pl) (cs : List (List (List Int))) : List (List (List Int)) := ps.foldl (fun cs p => addC cs p.ls) cs
def allC (ps : List Pl) : List (List (List Int)) := foldC ps [[]]
theorem addC_len (cs : List (List (List Int))) (ls : List (List Int)) : (addC cs ls).length = cs.length * ls.length := by
  unfold addC
  induction cs with
  | nil => simp
  | cons c cs ih => rw [List.flatMap_cons, List.length_append, ih, List.length_map, List.length_cons, Nat.add_mul, Nat.one_mul, Nat.add_comm]
theorem foldC_len (b : Nat) : ∀ (qs : List Pl) (cs : List (List (List Int))), (∀ q ∈ qs, q.ls.length ≤ b) → (foldC qs cs).length ≤ cs.length * b ^ qs.length
  | [], cs, _ => by simp [foldC]
  | q :: qs, cs, h => by
    have := foldC_len b qs (addC cs q.ls) fun y hy => h y (List.mem_cons_of_mem _ hy)
    refine Nat.le_trans this ?_
    rw [addC_len, List.length_cons, Nat.pow_succ, Nat.mul_comm (b ^ qs.length) b, ← Nat.mul_assoc]
    exact Nat.mul_le_mul_right _ (Nat.mul_le_mul_left _ (h q List.mem_cons_self))
theorem nodup_len {α : Type} [DecidableEq α] : ∀ {xs ys : List α}, xs.Nodup → (∀ x ∈ xs, x ∈ ys) → xs.length ≤ ys.length
  | [], ys, _, _ => Nat.zero_le _
  | x :: xs, ys, hn, h => by
    obtain ⟨h1, h2⟩ := List.nodup_cons.mp hn
    have hx := h x List.mem_cons_self
    have := nodup_len (xs := xs) (ys := ys.erase x) h2 fun y hy => (List.mem_erase_of_ne (by rintro rfl; exact h1 hy)).mpr (h y (List.mem_cons_of_mem _ hy))
    rw [List.length_erase_of_mem hx] at this
    have := List.length_pos_of_mem hx
    rw [List.length_cons]
    omega
/-- few choices: b lots each at most, and b to their number not over 5000 -/
structure Few (ps : List Pl) (b : Nat) : Prop where
  pos : 1 ≤ b
  each : ∀ p ∈ ps, p.ls.length ≤ b
  all : b ^ ps.length ≤ 5000
theorem Few.len {ps : List Pl} {b : Nat} (f : Few ps b) : (allC ps).length ≤ 5000 := by
  have := foldC_len b ps [[]] f.each
  rw [List.length_singleton, Nat.one_mul] at this
  exact Nat.le_trans this f.all
theorem of_p0 (n : Int) (ls : List (List Int)) : oIx (ofr n ls) (.int 0) = .ok (.int n) := rfl
theorem of_p1 (n : Int) (ls : List (List Int)) : oIx (ofr n ls) (.int 1) = .ok (tt ls) := rfl
end LW
set_option Elab.async false
set_option maxRecDepth 100000
set_option linter.all false
set_option maxHeartbeats 2000000
set_option Elab.async false
set_option maxRecDepth 100000
set_option linter.all false
set_option maxHeartbeats 2000000
set_option Elab.async false
set_option maxRecDepth 100000
set_option linter.all false
set_option maxHeartbeats 2000000
set_option Elab.async false
set_option linter.all false
set_option maxRecDepth 100000
set_option maxHeartbeats 4000000
set_option Elab.async false
set_option maxRecDepth 100000
set_option linter.all false
set_option maxHeartbeats 2000000
set_option Elab.async false
set_option maxRecDepth 100000
set_option linter.all false
set_option maxHeartbeats 4000000
set_option Elab.async false
set_option maxRecDepth 100000
set_option linter.all false
set_option maxHeartbeats 2000000
set_option Elab.async false
set_option linter.all false
set_option maxRecDepth 100000
set_option maxHeartbeats 4000000
set_option Elab.async false
set_option maxRecDepth 100000
set_option linter.all false
set_option maxHeartbeats 2000000
namespace LW
open PySem PySem.Spec PyProof.Rows L2 PD
/-- a while loop with a measure -/
theorem while_inv {fb : DnB} {g : Sn} (S : Nat → Rho → Prop) (hs : ∀ m ρ, S m ρ → (fb ρ = .ok true ∧ ∃ m' ρ', m' < m ∧ g ρ = .nx ρ' ∧ S m' ρ') ∨ fb ρ = .ok false) : ∀ (n m : Nat) (ρ : Rho), m < n → S m ρ → ∃ m' ρ', whGo fb g n ρ = .nx ρ' ∧ S m' ρ' ∧ fb ρ' = .ok false
  | 0, m, ρ, h, _ => by omega
  | n + 1, m, ρ, h, s => by
    unfold whGo
    rcases hs m ρ s with ⟨e, m', ρ', hm, e2, s2⟩ | e
    · obtain ⟨m2, ρ2, q1, q2, q3⟩ := while_inv S hs n m' ρ' (by omega) s2
      refine ⟨m2, ρ2, ?_, q2, q3⟩
      rw [e]
      show (match g ρ with | .nx ρ' => whGo fb g n ρ' | .ct ρ' => whGo fb g n ρ' | .bk ρ' => .nx ρ' | o => o) = _
      rw [e2]
      exact q1
    · refine ⟨m, ρ, ?_, s, e⟩
      rw [e]
      rfl
def freeB (ls : List (List Int)) (t : List Int) : Bool := ls.any fun l => t.all fun x => decide (x ∈ l)
def cand (n : Int) (ls : List (List Int)) (u : List Int) : List Int := (rangeI 0 n).filter fun x => !decide (x ∈ u) && freeB ls (u ++ [x])
def G (n : Int) (ls : List (List Int)) (P : List Int) : Nat → List Int
  | 0 => []
  | k + 1 => match best (ixv P) (cand n ls (G n ls P k)) with
    | some b => G n ls P k ++ [b]
    | none => G n ls P k
end LW
set_option Elab.async false
set_option maxRecDepth 100000
set_option linter.all false
set_option maxHeartbeats 2000000
namespace LW
open PySem PySem.Spec PyProof.Rows L2 PD
def lv (l : List Int) (x : Int) : List Int := l.filter fun y => !(y == x)
theorem mem_lv {l : List Int} {x y : Int} : y ∈ lv l x ↔ y ∈ l ∧ ¬ y = x := by unfold lv; simp
theorem lv_asc {n x : Int} {l : List Int} (h : Asc n l) : Asc n (lv l x) := ⟨h.1.sublist List.filter_sublist, fun y hy => h.2 y (mem_lv.mp hy).1⟩
theorem lv_len {l : List Int} {x : Int} (nd : l.Nodup) (hx : x ∈ l) : (lv l x).length + 1 = l.length := by
  have e : lv l x = l.erase x := (nd.erase_eq_filter x).symm
  have := List.length_pos_of_mem hx
  rw [e, List.length_erase_of_mem hx]
  omega
def Free (n : Int) (ls : List (List Int)) (k : List Int) : Prop := Asc n k ∧ ∃ l ∈ ls, ∀ y ∈ k, y ∈ l
theorem Free.lv {n x : Int} {ls : List (List Int)} {k : List Int} (h : Free n ls k) : Free n ls (lv k x) :=
  ⟨lv_asc h.1, let ⟨l, a, b⟩ := h.2; ⟨l, a, fun y hy => b y (mem_lv.mp hy).1⟩⟩
theorem v_fewer (l : List Int) : m_fewer_by_one [tu l] = .ok (lt (l.map (lv l))) := by
  show endR (g_fewer_by_one [some (.d (tu l)), none]) = _
  have : lcR (fun _ => .ok true) (fun x => m_leave_out [tu l, .int x]) l = .ok (l.map fun x => tu (lv l x)) := lcR_mem fun x _ => v_leave_out l x
  simp [g_fewer_by_one, this]
@[simp] theorem ev_newD (i : Nat) (ρ : Rho) : gNewD i ρ = .nx (ρ.set i (some (.dct []))) := rfl
def dctA (s : Option (Option Sl)) (k : List (List Int) → Out) : Out := match s with
  | some (some (.dct ds)) => k ds
  | _ => .bad
@[simp] theorem dctA_d (ks : List (List Int)) (k : List (List Int) → Out) : dctA (some (some (.dct ks))) k = k ks := rfl
@[simp] theorem ev_putD (i : Nat) (f : Dn) (ρ : Rho) : gPutD i f ρ = dctA ρ[i]? fun ks => oR (f ρ) ρ fun d => match asTu d with
  | some k => if ks.length < sizeLine then .nx (ρ.set i (some (.dct (if k ∈ ks then ks else ks ++ [k])))) else .bad
  | none => .bad := rfl
@[simp] theorem ev_setPop (j i : Nat) (ρ : Rho) : gSetPop j i ρ = ownA ρ[i]? fun ds => match ds.getLast? with
  | some d => .nx ((ρ.set i (some (.own ds.dropLast))).set j (some (.d d)))
  | none => .bad := rfl
def extO (d : PyData) (ds : List PyData) (ρ : Rho) (i : Nat) : Out := match d with
  | .list es => if ds.length + es.length ≤ sizeLine then .nx (ρ.set i (some (.own (ds ++ es)))) else .bad
  | _ => .bad
@[simp] theorem extO_lt (l : List (List Int)) (ds : List PyData) (ρ : Rho) (i : Nat) : extO (lt l) ds ρ i = if ds.length + l.length ≤ sizeLine then .nx (ρ.set i (some (.own (ds ++ l.map tu)))) else .bad := by
  show (if ds.length + (l.map tu).length ≤ sizeLine then _ else _) = _
  rw [List.length_map]
@[simp] theorem ev_ext (i : Nat) (f : Dn) (ρ : Rho) : gExt i f ρ = ownA ρ[i]? fun ds => oR (f ρ) ρ fun d => extO d ds ρ i := rfl
def frzDA (ρ : Rho) (i : Nat) (s : Option (Option Sl)) : Option Rho := match s with
  | some (some (.dct ks)) => some (ρ.set i (some (.d (.dict (ks.map keyD)))))
  | _ => none
@[simp] theorem frzDA_d (ρ : Rho) (i : Nat) (ks : List (List Int)) : frzDA ρ i (some (some (.dct ks))) = some (ρ.set i (some (.d (.dict (ks.map keyD))))) := rfl
theorem ev_frzD (i : Nat) (g : Sn) (ρ : Rho) : gFrzD i g ρ = match frzDA ρ i ρ[i]? with
  | some ρ' => g ρ'
  | none => .bad := rfl
@[simp] theorem oNotInT_tu (k : List Int) (ks : List (List Int)) : oNotInT (tu k) (.dict (ks.map keyD)) = .ok (.bool (!decide (k ∈ ks))) := by
  have h := oInT_tu k ks
  unfold oInT at h
  unfold oNotInT
  rw [asTu_tu] at h ⊢
  simp only [marked_keyD, Bool.false_eq_true, if_false, R.ok.injEq, PyData.bool.injEq] at h ⊢
  rw [h]
@[simp] theorem oNotInT_tu' (k : List Int) (ks : List (List Int)) : oNotInT (tu k) (.dict (ks.map fun k => (tu k, PyData.bool true))) = .ok (.bool (!decide (k ∈ ks))) := oNotInT_tu k ks
/-- what is left to see -/
def unseen (U ks : List (List Int)) : List (List Int) := U.filter fun k => !decide (k ∈ ks)
theorem unseen_less {U ks : List (List Int)} {k : List Int} (hk : k ∈ U) (h : ¬ k ∈ ks) (nd : U.Nodup) : (unseen U (ks ++ [k])).length + 1 = (unseen U ks).length := by
  have e : unseen U (ks ++ [k]) = (unseen U ks).erase k := by
    rw [List.Nodup.erase_eq_filter (l := unseen U ks) (List.Pairwise.filter _ nd)]
    unfold unseen
    rw [List.filter_filter]
    refine List.filter_congr fun z _ => ?_
    by_cases a : z ∈ ks <;> by_cases b : z = k <;> simp [a, b]
  have m : k ∈ unseen U ks := List.mem_filter.mpr ⟨hk, by simp [h]⟩
  have := List.length_pos_of_mem m
  rw [e, List.length_erase_of_mem m]
  omega
structure FS (n : Int) (ls U ks todo : List (List Int)) : Prop where
  free : ∀ k ∈ ks, Free n ls k
  nd : ks.Nodup
  tdo : ∀ k ∈ todo, Free n ls k
  cl : ∀ k ∈ ks, ∀ x ∈ k, lv k x ∈ ks ∨ lv k x ∈ todo
  lot : ∀ l ∈ ls, l ∈ ks ∨ l ∈ todo
theorem fs_all {n : Int} {ls U ks : List (List Int)} (s : FS n ls U ks []) (ha : ∀ l ∈ ls, Asc n l) : ∀ k, k ∈ ks ↔ Free n ls k := by
  have cl : ∀ k ∈ ks, ∀ x ∈ k, lv k x ∈ ks := fun k hk x hx => by
    rcases s.cl k hk x hx with h | h
    · exact h
    · cases h
  have down : ∀ (m : Nat) (l k : List Int), l.length = m → l ∈ ks → Asc n k → (∀ y ∈ k, y ∈ l) → k ∈ ks := by
    intro m
    induction m with
    | zero =>
      intro l k e hl hk hs
      have : l = [] := List.length_eq_zero_iff.mp e
      subst this
      have : k = [] := List.eq_nil_iff_forall_not_mem.mpr fun y hy => nomatch (hs y hy)
      rw [this]; exact hl
    | succ m ih =>
      intro l k e hl hk hs
      by_cases he : ∃ x ∈ l, ¬ x ∈ k
      · obtain ⟨x, hx, hxk⟩ := he
        refine ih (lv l x) k ?_ (cl l hl x hx) hk fun y hy => mem_lv.mpr ⟨hs y hy, fun e => hxk (by rw [← e]; exact hy)⟩
        have nd := (s.free l hl).1.nodup
        have := lv_len nd hx
        omega
      · have : k = l := asc_ext hk.1 (s.free l hl).1.1 fun y => ⟨hs y, fun hy => by
          by_cases c : y ∈ k
          · exact c
          · exact absurd ⟨y, hy, c⟩ he⟩
        rw [this]; exact hl
  intro k
  refine ⟨s.free k, fun ⟨hk, l, hl, hs⟩ => ?_⟩
  rcases s.lot l hl with h | h
  · exact down _ l k rfl h hk hs
  · cases h
theorem v_free_sets (n : Int) (ls : List (List Int)) (h0 : 0 ≤ n) (h1 : n ≤ 12) (g : Good n ls) : ∃ ks : List (List Int), m_free_sets [ofr n ls] = .ok (.dict (ks.map keyD)) ∧ ks.Nodup ∧ (∀ k, k ∈ ks ↔ Free n ls k) ∧ ks.length ≤ 60000 := by
  show ∃ ks : List (List Int), endR (g_free_sets [some (.d (ofr n ls)), none, none, none]) = _ ∧ _
  obtain ⟨U, _, hU, lU, aU⟩ := v_parts2 n h0 h1
  have nU : n.toNat ≤ 12 := by omega
  have lU2 : U.length ≤ 4096 := by
    rw [lU]
    calc 2 ^ n.toNat ≤ 2 ^ 12 := Nat.pow_le_pow_right (by decide) nU
      _ = 4096 := by decide
  have lls := g.len
  have test : ∀ (ks todo : List (List Int)) (o3 : Option Sl), dThawB (dAsB (dTwo oGt (dArg bLen (dCons (dVar 2) dNil)) (dC (.int 0)))) [some (.d (ofr n ls)), some (.dct ks), some (.own (todo.map tu)), o3] = .ok (decide (0 < todo.length)) := fun ks todo o3 => by simp [dThawB]
  obtain ⟨m', ρ', ew, ⟨ks, todo, o3, rfl, s, rfl, hks⟩, et⟩ := while_inv (fb := dThawB (dAsB (dTwo oGt (dArg bLen (dCons (dVar 2) dNil)) (dC (.int 0))))) (g := b_free_sets_1)
    (fun m ρ => ∃ (ks todo : List (List Int)) (o3 : Option Sl), ρ = [some (.d (ofr n ls)), some (.dct ks), some (.own (todo.map tu)), o3] ∧ FS n ls U ks todo ∧ m = todo.length + 13 * (unseen U ks).length ∧ ks.length + m ≤ 60000) (by
    rintro m ρ ⟨ks, todo, o3, rfl, s, hm, hb⟩
    rcases List.eq_nil_or_concat todo with rfl | ⟨td, k, rfl⟩
    · right
      exact test _ _ _
    · left
      rw [List.concat_eq_append] at s hm ⊢
      have hp : 0 < (td ++ [k]).length := by simp
      refine ⟨by rw [test, decide_eq_true hp], ?_⟩
      have fk := s.tdo k (by simp)
      by_cases hk : k ∈ ks
      · refine ⟨td.length + 13 * (unseen U ks).length, [some (.d (ofr n ls)), some (.dct ks), some (.own (td.map tu)), some (.d (tu k))], by rw [hm]; simp, ?_, ks, td, _, rfl, ⟨s.free, s.nd, fun k' h' => s.tdo k' (by simp [h']), fun k' h' x hx => ?_, fun l hl => ?_⟩, rfl, by rw [hm] at hb; simp at hb; omega⟩
        · simp [b_free_sets_1, hk]
        · rcases s.cl k' h' x hx with q | q
          · exact .inl q
          · rcases List.mem_append.mp q with q | q
            · exact .inr q
            · rw [List.mem_singleton.mp q]; exact .inl hk
        · rcases s.lot l hl with q | q
          · exact .inl q
          · rcases List.mem_append.mp q with q | q
            · exact .inr q
            · rw [List.mem_singleton.mp q]; exact .inl hk
      · have hu := unseen_less (U := U) ((hU k).mpr fk.1) hk aU.nodup
        have lk : k.length ≤ 12 := by have := fk.1.len; omega
        rw [List.length_append, List.length_singleton] at hm
        refine ⟨(td ++ k.map (lv k)).length + 13 * (unseen U (ks ++ [k])).length, [some (.d (ofr n ls)), some (.dct (ks ++ [k])), some (.own ((td ++ k.map (lv k)).map tu)), some (.d (tu k))], by rw [hm, List.length_append, List.length_map]; omega, ?_, ks ++ [k], td ++ k.map (lv k), _, rfl, ⟨fun k' h' => ?_, ?_, fun k' h' => ?_, fun k' h' x hx => ?_, fun l hl => ?_⟩, rfl, ?_⟩
        · have z1 : ks.length < sizeLine := line_lt (by omega)
          have z2 : td.length + k.length ≤ sizeLine := Nat.le_of_lt (line_lt (by omega))
          simp [b_free_sets_1, hk, v_fewer, z1, z2]
        · rcases List.mem_append.mp h' with q | q
          · exact s.free k' q
          · rw [List.mem_singleton.mp q]; exact fk
        · rw [List.nodup_append]
          exact ⟨s.nd, by simp, fun a ha b hb => by rw [List.mem_singleton.mp hb]; exact fun e => hk (by rw [← e]; exact ha)⟩
        · rcases List.mem_append.mp h' with q | q
          · exact s.tdo k' (by simp [q])
          · obtain ⟨x, hx, rfl⟩ := List.mem_map.mp q
            exact fk.lv
        · rcases List.mem_append.mp h' with q | q
          · rcases s.cl k' q x hx with q | q
            · exact .inl (by simp [q])
            · rcases List.mem_append.mp q with q | q
              · exact .inr (by simp [q])
              · rw [List.mem_singleton.mp q]; exact .inl (by simp)
          · have e := List.mem_singleton.mp q
            subst e
            exact .inr (List.mem_append_right _ (List.mem_map.mpr ⟨x, hx, rfl⟩))
        · rcases s.lot l hl with q | q
          · exact .inl (by simp [q])
          · rcases List.mem_append.mp q with q | q
            · exact .inr (by simp [q])
            · rw [List.mem_singleton.mp q]; exact .inl (by simp)
        · rw [List.length_append, List.length_append, List.length_map, List.length_singleton]
          omega) 1000000 (ls.length + 13 * (unseen U []).length) [some (.d (ofr n ls)), some (.dct []), some (.own (ls.map tu)), none] (by
      have : (unseen U []).length ≤ U.length := List.length_filter_le _ _
      omega) ⟨[], ls, none, rfl, ⟨by simp, .nil, fun k hk => ⟨g.asc k hk, k, hk, fun _ h => h⟩, by simp, fun l hl => .inr hl⟩, rfl, by
      have : (unseen U []).length ≤ U.length := List.length_filter_le _ _
      simp only [List.length_nil]
      omega⟩
  have e0 : todo = [] := by
    rcases todo with _ | ⟨t, td⟩
    · rfl
    · rw [test] at et; simp at et
  subst e0
  refine ⟨ks, ?_, s.nd, fs_all s g.asc, by omega⟩
  have b1 : bList [tt ls] = .ok (lt ls) := rfl
  have hw : gWhile (dThawB (dAsB (dTwo oGt (dArg bLen (dCons (dVar 2) dNil)) (dC (.int 0))))) b_free_sets_1 (fun _ => 1000000) [some (.d (ofr n ls)), some (.dct []), some (.own (ls.map tu)), none] = _ := ew
  have e1 : oIx (ofr n ls) (.int 1) = .ok (tt ls) := rfl
  unfold g_free_sets
  rw [ev_seq, ev_newD]
  dsimp only [seqO_nx, List.set]
  simp only [ev_seq, ev_own, ev_arg, ev_cons, ev_two, ev_var, ev_c, ev_nil, List.getElem?_cons_zero, varR_d, R.bind_ok, e1, b1, lt, ownR, oR, List.set, seqO]
  rw [hw]
  simp [ev_frzD]
end LW
set_option Elab.async false
set_option maxRecDepth 100000
set_option linter.all false
set_option maxHeartbeats 2000000
namespace LW
open PySem PySem.Spec PyProof.Rows L2 PD
@[simp] theorem ev_keys (f : Dn) (ρ : Rho) : dKeys f ρ = (f ρ >>= keysL) := rfl
theorem keysL_ok {ks : List (List Int)} (h : ks.length ≤ 100000) (h2 : ∀ k ∈ ks, k.length ≤ 100000) : keysL (.dict (ks.map keyD)) = .ok (ks.map tu) := by
  show (if (ks.map keyD).length ≤ sizeLine ∧ (ks.map keyD).all keyOk = true then R.ok ((ks.map keyD).map (·.1)) else .bad) = _
  rw [if_pos]
  · rw [List.map_map]; rfl
  · refine ⟨by rw [List.length_map, sizeLine_eq]; omega, List.all_eq_true.mpr fun p hp => ?_⟩
    obtain ⟨k, hk, rfl⟩ := List.mem_map.mp hp
    have := h2 k hk
    simp only [keyOk, keyD, List.length_map, decide_eq_true_eq, sizeLine_eq]
    omega
theorem rngA2_ok {a b : Int} (a0 : -1000 ≤ a) (a1 : a ≤ 100000) (b0 : -1000 ≤ b) (b1 : b ≤ 90000) : rngA2 [.int a, .int b] = .ok ((rangeI a b).map PyData.int) := by
  have e : rngA2 [.int a, .int b] = .ok (rngD a (b - a).toNat) := if_pos ⟨⟨by omega, by omega, by omega, by omega⟩, by rw [sizeLine_eq]; omega⟩
  rw [e, rngD_eq]
  rfl
/-- one above the last -/
def above (k : List Int) : Int := match k.getLast? with
  | some x => x + 1
  | none => 0
def cands (n : Int) (ks : List (List Int)) (k : List Int) : List (List Int) := ((rangeI (above k) n).map fun x => k ++ [x]).filter fun r => !decide (r ∈ ks) && r.all fun x => decide (lv r x ∈ ks)
theorem v_above (n : Int) (ks : List (List Int)) (k : List Int) (h0 : 0 ≤ n) (h1 : n ≤ 1000) (hk : Asc n k) : m_circuits_above [tu k, .int n, .dict (ks.map keyD)] = .ok (lt (cands n ks k)) := by
  show endR (g_circuits_above [some (.d (tu k)), some (.d (.int n)), some (.d (.dict (ks.map keyD))), none, none, none, none, none]) = _
  have lk := hk.len
  have ha : (if 0 < k.length then oIx (tu k) (.int (-1)) >>= fun a => oAdd a (.int 1) else .ok (.int 0)) = .ok (.int (above k)) := by
    rcases List.eq_nil_or_concat k with rfl | ⟨k', x, rfl⟩
    · rfl
    · rw [List.concat_eq_append] at hk ⊢
      have e : oIx (tu (k' ++ [x])) (.int (-1)) = .ok (.int x) := by
        unfold oIx tu
        have e1 : (-1 + ((k'.length : Int) + 1)).toNat = k'.length := by omega
        have e2 : (1 : Int) ≤ (k'.length : Int) + 1 := by omega
        simp [atI, ixN, e1, e2]
      rw [if_pos (by simp), e]
      simp [above]
  have a0 : 0 ≤ above k ∧ above k ≤ n := by
    unfold above
    cases e : k.getLast? with
    | none => simp; exact h0
    | some x =>
      have := hk.2 x (List.mem_of_getLast? e)
      simp; omega
  have c1 : lcR (fun _ => .ok true) (fun x : Int => oAdd (tu k) (tu [x])) (rangeI (above k) n) = .ok ((rangeI (above k) n).map fun x => tu (k ++ [x])) := lcR_mem fun x _ => oAdd_tu (by simp; omega)
  have i1 : ∀ r : List Int, dItems (dArg m_fewer_by_one (dCons (dVar 6) dNil)) [some (.d (tu k)), some (.d (.int n)), some (.d (.dict (ks.map keyD))), some (.d (.int (above k))), some (.d (lt ((rangeI (above k) n).map fun x => k ++ [x]))), none, some (.d (tu r)), none] = .ok ((r.map (lv r)).map tu) := fun r => by simp [v_fewer]
  have c2 : dLc (dItems (dVar 4)) (.nm 6) (dAnd (dAsB (dTwo oNotInT (dVar 6) (dVar 2))) (dAsB (dArg bAll (dCons (dLc (dItems (dArg m_fewer_by_one (dCons (dVar 6) dNil))) (.nm 7) dYes (dTwo oInT (dVar 7) (dVar 2)) [7]) dNil)))) (dVar 6) [6] [some (.d (tu k)), some (.d (.int n)), some (.d (.dict (ks.map keyD))), some (.d (.int (above k))), some (.d (lt ((rangeI (above k) n).map fun x => k ++ [x]))), none, none, none] = .ok (lt (cands n ks k)) := by
    rw [lc_of (enc := tu) (xs := (rangeI (above k) n).map fun x => k ++ [x]) (st := fun r => [some (.d (tu k)), some (.d (.int n)), some (.d (.dict (ks.map keyD))), some (.d (.int (above k))), some (.d (lt ((rangeI (above k) n).map fun x => k ++ [x]))), none, some (.d (tu r)), none]) (q := fun r => !decide (r ∈ ks) && r.all fun x => decide (lv r x ∈ ks)) (g := tu)]
    · rfl
    · simp
    · intro r _
      refine ⟨rfl, ?_, fun _ => by simp⟩
      have e1 := lc_of (t := .nm 7) (ft := dYes) (fe := dTwo oInT (dVar 7) (dVar 2)) (vs := [7]) (enc := tu) (q := fun _ => true) (g := fun l => PyData.bool (decide (l ∈ ks))) (st := fun l => [some (.d (tu k)), some (.d (.int n)), some (.d (.dict (ks.map keyD))), some (.d (.int (above k))), some (.d (lt ((rangeI (above k) n).map fun x => k ++ [x]))), none, some (.d (tu r)), some (.d (tu l))]) (i1 r) (fun l _ => ⟨rfl, rfl, fun _ => by simp⟩)
      have e2 := bAll_map (fun l => decide (l ∈ ks)) (r.map (lv r))
      rw [List.filter_eq_self.mpr (fun _ _ => rfl)] at e1
      have e3 : (dAsB (dArg bAll (dCons (dLc (dItems (dArg m_fewer_by_one (dCons (dVar 6) dNil))) (.nm 7) dYes (dTwo oInT (dVar 7) (dVar 2)) [7]) dNil))) [some (.d (tu k)), some (.d (.int n)), some (.d (.dict (ks.map keyD))), some (.d (.int (above k))), some (.d (lt ((rangeI (above k) n).map fun x => k ++ [x]))), none, some (.d (tu r)), none] = .ok (r.all fun x => decide (lv r x ∈ ks)) := by
        simp only [ev_asB, ev_arg, ev_cons, ev_nil, e1, R.bind_ok, e2, List.all_map]
        rfl
      simp only [ev_and, e3]
      have e4 : dAsB (dTwo oNotInT (dVar 6) (dVar 2)) [some (.d (tu k)), some (.d (.int n)), some (.d (.dict (ks.map keyD))), some (.d (.int (above k))), some (.d (lt ((rangeI (above k) n).map fun x => k ++ [x]))), none, some (.d (tu r)), none] = .ok (!decide (r ∈ ks)) := by simp
      rw [e4]
      cases decide (r ∈ ks) <;> rfl
  have c0 : dIf (dAsB (dTwo oGt (dArg bLen (dCons (dVar 0) dNil)) (dC (.int 0)))) (dTwo oAdd (dTwo oIx (dVar 0) (dOne oNeg (dC (.int 1)))) (dC (.int 1))) (dC (.int 0)) [some (.d (tu k)), some (.d (.int n)), some (.d (.dict (ks.map keyD))), none, none, none, none, none] = .ok (.int (above k)) := by
    rw [← ha]
    by_cases hl : 0 < k.length
    · have hl2 : (0 : Int) < (k.length : Int) := by omega
      have e : oNeg (.int 1) = .ok (.int (-1)) := rfl
      simp only [ev_if, ev_asB, ev_two, ev_arg, ev_cons, ev_nil, ev_var, ev_c, ev_one, List.getElem?_cons_zero, varR_d, R.bind_ok, bLen_tu, oGt_int, e, hl, hl2, decide_true, if_true]
      rfl
    · have hl2 : ¬ (0 : Int) < (k.length : Int) := by omega
      simp only [ev_if, ev_asB, ev_two, ev_arg, ev_cons, ev_nil, ev_var, ev_c, ev_one, List.getElem?_cons_zero, varR_d, R.bind_ok, bLen_tu, oGt_int, hl, hl2, decide_false, if_false]
      rfl
  have c3 : dLc (dRng2 (dCons (dVar 3) (dCons (dVar 1) dNil))) (.nm 5) dYes (dTwo oAdd (dVar 0) (dTup (dCons (dVar 5) dNil))) [5] [some (.d (tu k)), some (.d (.int n)), some (.d (.dict (ks.map keyD))), some (.d (.int (above k))), none, none, none, none] = .ok (lt ((rangeI (above k) n).map fun x => k ++ [x])) := by
    have er := rngA2_ok (a := above k) (b := n) (by omega) (by omega) (by omega) (by omega)
    simp [er, c1]
  unfold g_circuits_above
  simp only [ev_seq, ev_set, c0, c3]
  simp [c0, c3, c2, -ev_lc, -ev_if]
/-- a circuit -/
def Circ (n : Int) (ls : List (List Int)) (r : List Int) : Prop := Asc n r ∧ ¬ Free n ls r ∧ ∀ x ∈ r, Free n ls (lv r x)
theorem above_lt {n : Int} {k : List Int} (hk : k.Pairwise (· < ·)) : ∀ y ∈ k, y < above k := by
  rcases List.eq_nil_or_concat k with rfl | ⟨k', x, rfl⟩
  · intro y hy; cases hy
  · rw [List.concat_eq_append] at hk ⊢
    intro y hy
    have e : above (k' ++ [x]) = x + 1 := by simp [above]
    rw [e]
    rcases List.mem_append.mp hy with h | h
    · have := (List.pairwise_append.mp hk).2.2 y h x (by simp)
      omega
    · rw [List.mem_singleton.mp h]; omega
theorem asc_end {n x : Int} {k : List Int} (hk : Asc n k) (h0 : above k ≤ x) (h1 : x < n) (h2 : 0 ≤ x) : Asc n (k ++ [x]) := by
  refine ⟨List.pairwise_append.mpr ⟨hk.1, by simp, fun a ha b hb => ?_⟩, fun y hy => ?_⟩
  · rw [List.mem_singleton.mp hb]
    have := above_lt (n := n) hk.1 a ha
    omega
  · rcases List.mem_append.mp hy with h | h
    · exact hk.2 y h
    · rw [List.mem_singleton.mp h]; exact ⟨h2, h1⟩
theorem above_nn {n : Int} {k : List Int} (hk : Asc n k) : 0 ≤ above k := by
  unfold above
  cases e : k.getLast? with
  | none => simp
  | some x => have := hk.2 x (List.mem_of_getLast? e); simp; omega
theorem asc_last {n x : Int} {k : List Int} (h : Asc n (k ++ [x])) : Asc n k ∧ above k ≤ x ∧ x < n ∧ 0 ≤ x ∧ lv (k ++ [x]) x = k := by
  obtain ⟨p1, p2, p3⟩ := List.pairwise_append.mp h.1
  have hx := h.2 x (by simp)
  refine ⟨⟨p1, fun y hy => h.2 y (by simp [hy])⟩, ?_, hx.2, hx.1, ?_⟩
  · unfold above
    cases e : k.getLast? with
    | none => simp; exact hx.1
    | some y => have := p3 y (List.mem_of_getLast? e) x (by simp); simp; omega
  · unfold lv
    rw [List.filter_append]
    have e1 : k.filter (fun y => !(y == x)) = k := List.filter_eq_self.mpr fun y hy => by
      have := p3 y hy x (by simp)
      simp; omega
    simp [e1]
theorem mem_cands {n : Int} {ks : List (List Int)} {k r : List Int} : r ∈ cands n ks k ↔ ∃ x, above k ≤ x ∧ x < n ∧ r = k ++ [x] ∧ ¬ r ∈ ks ∧ ∀ y ∈ r, lv r y ∈ ks := by
  unfold cands
  rw [List.mem_filter, List.mem_map]
  constructor
  · rintro ⟨⟨x, hx, rfl⟩, h⟩
    obtain ⟨a, b⟩ := mem_rangeI.mp hx
    rw [Bool.and_eq_true, List.all_eq_true] at h
    exact ⟨x, a, b, rfl, by simpa using h.1, fun y hy => by simpa using h.2 y hy⟩
  · rintro ⟨x, a, b, rfl, h1, h2⟩
    refine ⟨⟨x, mem_rangeI.mpr ⟨a, b⟩, rfl⟩, ?_⟩
    rw [Bool.and_eq_true, List.all_eq_true]
    exact ⟨by simpa using h1, fun y hy => by simpa using h2 y hy⟩
theorem mem_circs {n : Int} {ls ks : List (List Int)} (hne : ls ≠ []) (hks : ∀ k, k ∈ ks ↔ Free n ls k) {r : List Int} : r ∈ ks.flatMap (cands n ks) ↔ Circ n ls r := by
  rw [List.mem_flatMap]
  constructor
  · rintro ⟨k, hk, hr⟩
    obtain ⟨x, a, b, rfl, h1, h2⟩ := mem_cands.mp hr
    have fk := (hks k).mp hk
    have := above_nn fk.1
    exact ⟨asc_end fk.1 a b (by omega), fun f => h1 ((hks _).mpr f), fun y hy => (hks _).mp (h2 y hy)⟩
  · rintro ⟨ha, h1, h2⟩
    rcases List.eq_nil_or_concat r with rfl | ⟨k, x, rfl⟩
    · obtain ⟨l, hl⟩ := List.exists_mem_of_ne_nil _ hne
      exact absurd ⟨Asc.nil n, l, hl, by simp⟩ h1
    · rw [List.concat_eq_append] at ha h1 h2 ⊢
      obtain ⟨ka, a, b, c, e⟩ := asc_last ha
      refine ⟨k, (hks k).mpr ?_, mem_cands.mpr ⟨x, a, b, rfl, fun z => h1 ((hks _).mp z), fun y hy => (hks _).mpr (h2 y hy)⟩⟩
      have := h2 x (by simp)
      rwa [e] at this
theorem rangeI_nd (a b : Int) : (rangeI a b).Nodup := by
  unfold rangeI
  exact List.Pairwise.map _ (fun x y h e => h (by have e : a + (x : Int) = a + (y : Int) := e; omega)) List.nodup_range
theorem circs_nd {n : Int} {ks : List (List Int)} (nd : ks.Nodup) : (ks.flatMap (cands n ks)).Nodup := by
  unfold List.Nodup
  rw [List.pairwise_flatMap]
  refine ⟨fun k _ => ?_, nd.imp fun {k k'} hk r hr r' hr' e => ?_⟩
  · unfold cands
    exact ((rangeI_nd _ _).map (fun x => k ++ [x]) fun x y h e => h (by simpa using e)).filter _
  · obtain ⟨x, _, _, e1, _⟩ := mem_cands.mp hr
    obtain ⟨x', _, _, e2, _⟩ := mem_cands.mp hr'
    rw [e1, e2] at e
    exact hk (List.append_inj' e rfl).1
theorem circs_len {n : Int} {ls : List (List Int)} (h0 : 0 ≤ n) (h1 : n ≤ 12) {rs : List (List Int)} (nd : rs.Nodup) (h : ∀ r ∈ rs, Asc n r) : rs.length ≤ 4096 := by
  obtain ⟨U, _, hU, lU, aU⟩ := v_parts2 n h0 h1
  have nU : n.toNat ≤ 12 := by omega
  have lU2 : U.length ≤ 4096 := by
    rw [lU]
    calc 2 ^ n.toNat ≤ 2 ^ 12 := Nat.pow_le_pow_right (by decide) nU
      _ = 4096 := by decide
  have := nd.length_le_of_subset (l₂ := U) fun r hr => (hU r).mpr (h r hr)
  omega
def circs (n : Int) (ks : List (List Int)) : List (List Int) := sortT (ks.flatMap (cands n ks))
theorem v_circuits (n : Int) (ls : List (List Int)) (h0 : 0 ≤ n) (h1 : n ≤ 12) (g : Good n ls) : ∃ cs : List (List Int), m_circuits [ofr n ls] = .ok (tt cs) ∧ Asd cs ∧ (∀ r, r ∈ cs ↔ Circ n ls r) ∧ cs.length ≤ 4096 := by
  obtain ⟨ks, ek, nd, hks, lk⟩ := v_free_sets n ls h0 h1 g
  have mem : ∀ r, r ∈ ks.flatMap (cands n ks) ↔ Circ n ls r := fun r => mem_circs g.ne hks
  have nd2 := circs_nd (n := n) nd
  have len := circs_len (n := n) (ls := ls) h0 h1 nd2 fun r hr => ((mem r).mp hr).1
  refine ⟨circs n ks, ?_, asd_sortT nd2, fun r => mem_sortT.trans (mem r), by unfold circs; rw [(sortT_perm _).length_eq]; exact len⟩
  show endR (g_circuits [some (.d (ofr n ls)), none, none, none]) = _
  have e0 : oIx (ofr n ls) (.int 0) = .ok (.int n) := rfl
  have c1 : dLc2 (dKeys (dVar 1)) (.nm 2) dYes (dItems (dArg m_circuits_above (dCons (dVar 2) (dCons (dTwo oIx (dVar 0) (dC (.int 0))) (dCons (dVar 1) dNil))))) (.nm 3) dYes (dVar 3) [2, 3] [3] [some (.d (ofr n ls)), some (.d (.dict (ks.map keyD))), none, none] = .ok (lt (ks.flatMap (cands n ks))) := by
    rw [lc2_of (enc := tu) (xs := ks) (st := fun k => [some (.d (ofr n ls)), some (.d (.dict (ks.map keyD))), some (.d (tu k)), none]) (q := fun _ => true) (es := fun k => (cands n ks k).map tu) (ys := fun k => (cands n ks k).map tu)]
    · rw [List.filter_eq_self.mpr (fun _ _ => rfl), ← List.map_flatMap]; rfl
    · have := keysL_ok (ks := ks) (by omega) fun k hk => by
        have h2 := ((hks k).mp hk).1.len
        omega
      simp only [ev_keys, ev_var, List.getElem?_cons_succ, List.getElem?_cons_zero, varR_d, R.bind_ok, this]
    · intro k hk
      refine ⟨rfl, rfl, fun _ => ⟨?_, ?_⟩⟩
      · simp only [ev_items, ev_arg, ev_cons, ev_nil, ev_var, ev_two, ev_c, List.getElem?_cons_succ, List.getElem?_cons_zero, varR_d, R.bind_ok, e0, v_above n ks k h0 (by omega) ((hks k).mp hk).1, items_lt]
      · rw [lcGo_of (enc := tu) (st := fun r => [some (.d (ofr n ls)), some (.d (.dict (ks.map keyD))), some (.d (tu k)), some (.d (tu r))]) (q := fun _ => true) (g := tu)]
        · rw [List.filter_eq_self.mpr (fun _ _ => rfl)]
        · intro r _
          exact ⟨rfl, rfl, fun _ => rfl⟩
    · rw [List.filter_eq_self.mpr (fun _ _ => rfl), ← List.map_flatMap, List.length_map]
      omega
  unfold g_circuits
  simp only [ev_seq, ev_set, ev_arg, ev_cons, ev_nil, ev_var, List.getElem?_cons_zero, varR_d, R.bind_ok, ek]
  simp [c1, circs]
end LW
set_option Elab.async false
set_option maxRecDepth 100000
set_option linter.all false
set_option maxHeartbeats 2000000
namespace LW
open PySem PySem.Spec PyProof.Rows L2 PD
theorem v_is_offer (n : Int) (ls : List (List Int)) (h : ∀ l ∈ ls, Asc n l) (hn : n ≤ 1000) : m_law_is_offer [.tuple [.int n, tt ls], .int n, tt ls] = .ok (.bool true) := by
  show endR (g_law_is_offer [some (.d (.tuple [.int n, tt ls])), some (.d (.int n)), some (.d (tt ls)), none]) = _
  have key := forGo_inv (i := 3) (g := b_law_is_offer_1) (enc := tu) (fun xs ρ => ∃ o3, ρ = [some (.d (.tuple [.int n, tt ls])), some (.d (.int n)), some (.d (tt ls)), o3] ∧ ∀ l ∈ xs, Asc n l) (by
    rintro l xs ρ ⟨o2, rfl, hk⟩
    refine ⟨[some (.d (.tuple [.int n, tt ls])), some (.d (.int n)), some (.d (tt ls)), some (.d (tu l))], ?_, _, rfl, fun y hy => hk y (List.mem_cons_of_mem _ hy)⟩
    have hl := hk l List.mem_cons_self
    simp [b_law_is_offer_1, v_is_set l n hl (by have := hl.len; omega)])
  obtain ⟨ρ', e, o2, rfl, _⟩ := key ls [some (.d (.tuple [.int n, tt ls])), some (.d (.int n)), some (.d (tt ls)), none] ⟨none, rfl, h⟩
  have b2 : bLen [.tuple [.int n, tt ls]] = .ok (.int 2) := rfl
  simp [g_law_is_offer, isi_tuple, isi_tt, b2, v_integer, e]
end LW
set_option Elab.async false
set_option maxRecDepth 100000
set_option linter.all false
set_option maxHeartbeats 2000000
namespace LW
open PySem PySem.Spec PyProof.Rows L2 PD
def inAny (k : List Int) (ls : List (List Int)) : Bool := ls.any fun l => k.all fun x => decide (x ∈ l)
theorem inAny_iff {k : List Int} {ls : List (List Int)} : inAny k ls = true ↔ ∃ l ∈ ls, ∀ y ∈ k, y ∈ l := by
  unfold inAny
  simp
theorem v_law_free (k : List Int) (ls : List (List Int)) : m_law_free [tu k, tt ls] = .ok (.bool (inAny k ls)) := by
  show endR (g_law_free [some (.d (tu k)), some (.d (tt ls)), none]) = _
  have c : lcR (fun _ => .ok true) (fun l => m_law_within [tu k, tu l]) ls = .ok (ls.map fun l => PyData.bool (k.all fun x => decide (x ∈ l))) := lcR_mem fun l _ => v_within k l
  have b := bAny_map (fun l => k.all fun x => decide (x ∈ l)) ls
  simp [g_law_free, c, b, -List.all_eq_true]
  rfl
/-- what is not free has a circuit within -/
theorem circ_in {n : Int} {ls : List (List Int)} : ∀ (m : Nat) (r : List Int), r.length = m → Asc n r → ¬ Free n ls r → ∃ c, Circ n ls c ∧ ∀ y ∈ c, y ∈ r
  | m, r, e, ha, hf => by
    by_cases h : ∃ x ∈ r, ¬ Free n ls (lv r x)
    · obtain ⟨x, hx, hn⟩ := h
      have l := lv_len ha.nodup hx
      obtain ⟨c, hc, hs⟩ := circ_in (lv r x).length (lv r x) rfl (lv_asc ha) hn
      exact ⟨c, hc, fun y hy => (mem_lv.mp (hs y hy)).1⟩
    · refine ⟨r, ⟨ha, hf, fun x hx => ?_⟩, fun y hy => hy⟩
      by_cases c : Free n ls (lv r x)
      · exact c
      · exact absurd ⟨x, hx, c⟩ h
termination_by m => m
decreasing_by omega
end LW
set_option Elab.async false
set_option maxRecDepth 100000
set_option linter.all false
set_option maxHeartbeats 2000000
namespace LW
open PySem PySem.Spec PyProof.Rows L2 PD
def ins (l : List Int) (x : Int) : List Int := sortI (l ++ [x])
theorem mem_ins {l : List Int} {x y : Int} : y ∈ ins l x ↔ y ∈ l ∨ y = x := by unfold ins; rw [mem_sortI]; simp
theorem ins_asc {n x : Int} {l : List Int} (h : Asc n l) (hx : ¬ x ∈ l) (b : 0 ≤ x ∧ x < n) : Asc n (ins l x) := by
  refine sortI_asc ?_ fun y hy => ?_
  · rw [List.nodup_append]
    exact ⟨h.nodup, by simp, fun a ha c hc => by rw [List.mem_singleton.mp hc]; exact fun e => hx (by rw [← e]; exact ha)⟩
  · rcases List.mem_append.mp hy with q | q
    · exact h.2 y q
    · rw [List.mem_singleton.mp q]; exact b
theorem ins_len (l : List Int) (x : Int) : (ins l x).length = l.length + 1 := by
  unfold ins
  rw [(sortD_ints (l ++ [x])).2.length_eq, List.length_append, List.length_singleton]
theorem Free.sub {n : Int} {ls : List (List Int)} {k r : List Int} (h : Free n ls k) (ha : Asc n r) (hs : ∀ y ∈ r, y ∈ k) : Free n ls r := ⟨ha, let ⟨l, a, b⟩ := h.2; ⟨l, a, fun y hy => b y (hs y hy)⟩⟩
theorem Free.bd {n x : Int} {ls : List (List Int)} {k : List Int} (h : Free n ls k) (hx : x ∈ k) : 0 ≤ x ∧ x < n := h.1.2 x hx
def Aug (n : Int) (ls : List (List Int)) : Prop := ∀ a b, Free n ls a → Free n ls b → a.length < b.length → ∃ z ∈ b, ¬ z ∈ a ∧ Free n ls (ins a z)
theorem len_split (l k : List Int) : l.length = (l.filter fun y => decide (y ∈ k)).length + (l.filter fun y => !decide (y ∈ k)).length := by
  induction l with
  | nil => rfl
  | cons a l ih =>
    by_cases h : a ∈ k <;> simp [List.filter_cons, h, ih] <;> omega
theorem filter_asc {n : Int} {l : List Int} (h : Asc n l) (p : Int → Bool) : Asc n (l.filter p) := ⟨h.1.sublist List.filter_sublist, fun x hx => h.2 x (List.mem_filter.mp hx).1⟩
theorem both_len {n : Int} {a b : List Int} (ha : Asc n a) (hb : Asc n b) : (a.filter fun y => decide (y ∈ b)).length = (b.filter fun y => decide (y ∈ a)).length := by
  have : (a.filter fun y => decide (y ∈ b)) = b.filter fun y => decide (y ∈ a) := asc_ext (filter_asc ha _).1 (filter_asc hb _).1 fun y => by
    rw [List.mem_filter, List.mem_filter]; simp [and_comm]
  rw [this]
theorem aug_smooth {n : Int} {ls : List (List Int)} (s : Smooth n ls) : Aug n ls := by
  intro a b ha hb hlt
  obtain ⟨Y, hY, hbY⟩ := hb.2
  have aY := s.good.asc Y hY
  -- X above a, the fewest outside Y
  have : ∀ (m : Nat) (X : List Int), X ∈ ls → (∀ y ∈ a, y ∈ X) → (X.filter fun y => !decide (y ∈ Y)).length = m → ∃ z ∈ b, ¬ z ∈ a ∧ Free n ls (ins a z) := by
    intro m
    induction m using Nat.strongRecOn with
    | _ m ih =>
      intro X hX haX hm
      have aX := s.good.asc X hX
      by_cases c : ∃ z ∈ b, ¬ z ∈ a ∧ z ∈ X
      · obtain ⟨z, hz, hza, hzX⟩ := c
        exact ⟨z, hz, hza, ins_asc ha.1 hza (hb.bd hz), X, hX, fun y hy => by
          rcases mem_ins.mp hy with h | h
          · exact haX y h
          · rw [h]; exact hzX⟩
      · by_cases d : ∃ x ∈ X, ¬ x ∈ Y ∧ ¬ x ∈ a
        · obtain ⟨x, hx, hxY, hxa⟩ := d
          obtain ⟨t, ht, htX, hl⟩ := s.exc X hX x hx Y hY hxY
          refine ih _ ?_ (exch X x t) hl (fun y hy => mem_exch.mpr (.inl ⟨haX y hy, fun e => hxa (by rw [← e]; exact hy)⟩)) rfl
          have e1 : (exch X x t).filter (fun y => !decide (y ∈ Y)) = lv (X.filter fun y => !decide (y ∈ Y)) x := by
            refine asc_ext (filter_asc (exch_asc aX htX (aY.2 t ht)) _).1 (lv_asc (filter_asc aX _)).1 fun y => ?_
            rw [List.mem_filter, mem_exch, mem_lv, List.mem_filter]
            simp only [Bool.not_eq_true', decide_eq_false_iff_not]
            constructor
            · rintro ⟨h | h, h2⟩
              · exact ⟨⟨h.1, h2⟩, h.2⟩
              · exact absurd (by rw [h]; exact ht) h2
            · rintro ⟨⟨h1, h2⟩, h3⟩
              exact ⟨.inl ⟨h1, h3⟩, h2⟩
          have hxm : x ∈ X.filter fun y => !decide (y ∈ Y) := List.mem_filter.mpr ⟨hx, by simp [hxY]⟩
          have := lv_len (filter_asc aX _).nodup hxm
          rw [e1]
          omega
        · exfalso
          have s1 : ∀ x ∈ X, ¬ x ∈ Y → x ∈ a := fun x hx hxY => by
            by_cases e : x ∈ a
            · exact e
            · exact absurd ⟨x, hx, hxY, e⟩ d
          have s2 : ∀ z ∈ b, ¬ z ∈ a → ¬ z ∈ X := fun z hz hza hzX => c ⟨z, hz, hza, hzX⟩
          have l1 := sub_len (filter_asc aX fun y => !decide (y ∈ Y)).1 (filter_asc ha.1 fun y => !decide (y ∈ b)).1 fun y hy => by
            obtain ⟨h1, h2⟩ := List.mem_filter.mp hy
            have h2 : ¬ y ∈ Y := by simpa using h2
            exact List.mem_filter.mpr ⟨s1 y h1 h2, by simp; exact fun z => h2 (hbY y z)⟩
          have l2 := sub_len (filter_asc hb.1 fun y => !decide (y ∈ a)).1 (filter_asc aY fun y => !decide (y ∈ X)).1 fun y hy => by
            obtain ⟨h1, h2⟩ := List.mem_filter.mp hy
            have h2 : ¬ y ∈ a := by simpa using h2
            exact List.mem_filter.mpr ⟨hbY y h1, by simp; exact s2 y h1 h2⟩
          have q1 := len_split X Y
          have q2 := len_split Y X
          have q3 := both_len aX aY
          have q4 := len_split a b
          have q5 := len_split b a
          have q6 := both_len ha.1 hb.1
          have q7 := s.eqs X hX Y hY
          omega
  obtain ⟨X, hX, haX⟩ := ha.2
  exact this _ X hX haX rfl
theorem circ_sub {n : Int} {ls : List (List Int)} {c d : List Int} (hc : Circ n ls c) (hd : Circ n ls d) (h : ∀ y ∈ c, y ∈ d) : c = d := by
  by_cases q : ∃ x ∈ d, ¬ x ∈ c
  · obtain ⟨x, hx, hxc⟩ := q
    exact absurd ((hd.2.2 x hx).sub hc.1 fun y hy => mem_lv.mpr ⟨h y hy, fun e => hxc (by rw [← e]; exact hy)⟩) hc.2.1
  · exact asc_ext hc.1.1 hd.1.1 fun y => ⟨h y, fun hy => by
      by_cases e : y ∈ c
      · exact e
      · exact absurd ⟨y, hy, e⟩ q⟩
end LW
set_option Elab.async false
set_option linter.all false
set_option maxRecDepth 100000
set_option maxHeartbeats 4000000
set_option Elab.async false
set_option maxRecDepth 100000
set_option linter.all false
set_option maxHeartbeats 2000000
namespace LW
open PySem PySem.Spec PyProof.Rows L2 PD
theorem free_le {n : Int} {ls : List (List Int)} {A I : List Int} (g : Good n ls) (h : Free n ls I) (s : ∀ y ∈ I, y ∈ A) : (I.length : Int) ≤ rank A ls := by
  obtain ⟨l, hl, hs⟩ := h.2
  have h1 := le_rank (A := A) hl
  have h2 : I.length ≤ cnt A l := sub_len h.1.1 (filter_asc (g.asc l hl) _).1 fun y hy => List.mem_filter.mpr ⟨hs y hy, decide_eq_true (s y hy)⟩
  omega
theorem free_at {n : Int} {ls : List (List Int)} (A : List Int) (g : Good n ls) : ∃ I, Free n ls I ∧ (∀ y ∈ I, y ∈ A) ∧ (I.length : Int) = rank A ls := by
  obtain ⟨l, hl, e⟩ := rank_at (A := A) g.ne
  exact ⟨l.filter fun y => decide (y ∈ A), ⟨filter_asc (g.asc l hl) _, l, hl, fun y hy => (List.mem_filter.mp hy).1⟩, fun y hy => of_decide_eq_true (List.mem_filter.mp hy).2, e.symm⟩
theorem rank_mono {n : Int} {ls : List (List Int)} {A B : List Int} (g : Good n ls) (h : ∀ y ∈ A, y ∈ B) : rank A ls ≤ rank B ls := by
  obtain ⟨I, f, s, e⟩ := free_at A g
  rw [← e]
  exact free_le g f fun y hy => h y (s y hy)
theorem ext_free {n : Int} {ls : List (List Int)} (A : Aug n ls) {J : List Int} (hJ : Free n ls J) : ∀ (m : Nat) (I : List Int), Free n ls I → J.length - I.length = m → I.length ≤ J.length → ∃ K, Free n ls K ∧ (∀ y ∈ I, y ∈ K) ∧ (∀ y ∈ K, y ∈ I ∨ y ∈ J) ∧ K.length = J.length := by
  intro m
  induction m with
  | zero => exact fun I hI hm hl => ⟨I, hI, fun _ h => h, fun y h => .inl h, by omega⟩
  | succ m ih =>
    intro I hI hm hl
    obtain ⟨z, hz, hzI, hf⟩ := A I J hI hJ (by omega)
    have l := ins_len I z
    obtain ⟨K, k1, k2, k3, k4⟩ := ih (ins I z) hf (by omega) (by omega)
    refine ⟨K, k1, fun y hy => k2 y (mem_ins.mpr (.inl hy)), fun y hy => ?_, k4⟩
    rcases k3 y hy with h | h
    · rcases mem_ins.mp h with h | h
      · exact .inl h
      · rw [h]; exact .inr hz
    · exact .inr h
theorem span_circ {n x : Int} {ls : List (List Int)} {A : List Int} (s : Smooth n ls) (hx : 0 ≤ x ∧ x < n) (hxA : ¬ x ∈ A) : (∃ c, Circ n ls c ∧ x ∈ c ∧ ∀ y ∈ c, y ∈ A ∨ y = x) ↔ rank (A ++ [x]) ls = rank A ls := by
  have au := aug_smooth s
  constructor
  · rintro ⟨c, hc, hxc, hcA⟩
    have le := rank_mono (n := n) (A := A) (B := A ++ [x]) s.good fun y hy => by simp [hy]
    by_cases e : rank (A ++ [x]) ls = rank A ls
    · exact e
    · exfalso
      obtain ⟨J, fJ, sJ, eJ⟩ := free_at (A ++ [x]) s.good
      have fc := hc.2.2 x hxc
      have lc : ((lv c x).length : Int) ≤ rank A ls := free_le s.good fc fun y hy => by
        obtain ⟨h1, h2⟩ := mem_lv.mp hy
        rcases hcA y h1 with h | h
        · exact h
        · exact absurd h h2
      obtain ⟨K, k1, k2, k3, k4⟩ := ext_free au fJ _ (lv c x) fc rfl (by omega)
      have kA : ∀ y ∈ K, y ∈ A ∨ y = x := fun y hy => by
        rcases k3 y hy with h | h
        · exact hcA y (mem_lv.mp h).1
        · simpa using sJ y h
      by_cases hxK : x ∈ K
      · exact hc.2.1 (k1.sub hc.1 fun y hy => by
          by_cases z : y = x
          · rw [z]; exact hxK
          · exact k2 y (mem_lv.mpr ⟨hy, z⟩))
      · have : (K.length : Int) ≤ rank A ls := free_le s.good k1 fun y hy => by
          rcases kA y hy with h | h
          · exact h
          · exact absurd (by rw [← h]; exact hy) hxK
        omega
  · intro e
    obtain ⟨I, fI, sI, eI⟩ := free_at A s.good
    have hxI : ¬ x ∈ I := fun h => hxA (sI x h)
    have aI : Asc n (ins I x) := ins_asc fI.1 hxI hx
    have nf : ¬ Free n ls (ins I x) := fun h => by
      have := free_le (A := A ++ [x]) s.good h fun y hy => by
        rcases mem_ins.mp hy with h | h
        · simp [sI y h]
        · simp [h]
      rw [ins_len] at this
      omega
    obtain ⟨c, hc, hs⟩ := circ_in (n := n) (ls := ls) _ _ rfl aI nf
    refine ⟨c, hc, ?_, fun y hy => ?_⟩
    · by_cases z : x ∈ c
      · exact z
      · exact absurd (fI.sub hc.1 fun y hy => by
          rcases mem_ins.mp (hs y hy) with h | h
          · exact h
          · exact absurd (by rw [← h]; exact hy) z) hc.2.1
    · rcases mem_ins.mp (hs y hy) with h | h
      · exact .inl (sI y h)
      · exact .inr h
end LW
set_option Elab.async false
set_option maxRecDepth 100000
set_option linter.all false
set_option maxHeartbeats 2000000
namespace LW
open PySem PySem.Spec PyProof.Rows L2 PD
def minOf (rows : List (List Int)) (r : List Int) : Bool := !(rows.any fun o => !decide (o = r) && o.all fun x => decide (x ∈ r))
theorem v_law_circuits (n : Int) (ls cs : List (List Int)) (h0 : 0 ≤ n) (h1 : n ≤ 12) (asd : Asd cs) (mem : ∀ r, r ∈ cs ↔ Circ n ls r) : m_law_circuits [ofr n ls] = .ok (lt cs) := by
  obtain ⟨U, eU, hU, lU, aU⟩ := v_parts2 n h0 h1
  have lU2 : U.length ≤ 4096 := by
    have nU : n.toNat ≤ 12 := by omega
    rw [lU]
    calc 2 ^ n.toNat ≤ 2 ^ 12 := Nat.pow_le_pow_right (by decide) nU
      _ = 4096 := by decide
  show endR (g_law_circuits [some (.d (ofr n ls)), none, none, none, none]) = _
  have j1 : oIx (ofr n ls) (.int 1) = .ok (tt ls) := rfl
  have j0 : oIx (ofr n ls) (.int 0) = .ok (.int n) := rfl
  have c1 : dLc (dItems (dArg m_law_parts_of (dCons (dTwo oIx (dVar 0) (dC (.int 0))) dNil))) (.nm 3) (dNot (dAsB (dArg m_law_free (dCons (dVar 3) (dCons (dTwo oIx (dVar 0) (dC (.int 1))) dNil))))) (dVar 3) [3] [some (.d (ofr n ls)), none, none, none, none] = .ok (lt (U.filter fun r => !inAny r ls)) := by
    rw [lc_of (enc := tu) (xs := U) (st := fun r => [some (.d (ofr n ls)), none, none, some (.d (tu r)), none]) (q := fun r => !inAny r ls) (g := tu)]
    · rfl
    · simp [j0, eU]
    · intro r _
      exact ⟨rfl, by simp [j1, v_law_free], fun _ => rfl⟩
  generalize hR : (U.filter fun r => !inAny r ls) = R at c1
  have lR : R.length ≤ 4096 := by
    have := List.length_filter_le (fun r => !inAny r ls) U
    rw [hR] at this
    omega
  have hRm : ∀ r, r ∈ R ↔ Asc n r ∧ ¬ Free n ls r := fun r => by
    rw [← hR, List.mem_filter, hU, Bool.not_eq_true', ← Bool.not_eq_true, inAny_iff]
    exact ⟨fun ⟨a, b⟩ => ⟨a, fun f => b f.2⟩, fun ⟨a, b⟩ => ⟨a, fun f => b ⟨a, f⟩⟩⟩
  have key := forGo_inv (i := 3) (g := b_law_circuits_1) (enc := tu) (fun xs ρ => ∃ (kept : List (List Int)) (o3 : Option Sl), ρ = [some (.d (ofr n ls)), some (.d (lt R)), some (.own (kept.map tu)), o3, none] ∧ kept ++ xs.filter (minOf R) = R.filter (minOf R)) (by
    rintro r xs ρ ⟨kept, o3, rfl, hk⟩
    have c : lcR (fun _ => .ok true) (fun o => if o = r then .ok (.bool false) else m_law_within [tu o, tu r]) R = .ok (R.map fun o => PyData.bool (!decide (o = r) && o.all fun x => decide (x ∈ r))) := lcR_mem fun o _ => by
      by_cases h : o = r
      · simp [h]
      · simp [h, v_within, -List.all_eq_true]
    have b := bAny_map (fun o => !decide (o = r) && o.all fun x => decide (x ∈ r)) R
    have lk : kept.length ≤ R.length := by
      have e1 := congrArg List.length hk
      rw [List.length_append] at e1
      have := List.length_filter_le (minOf R) R
      omega
    have z : kept.length < sizeLine := line_lt (by omega)
    by_cases hm : minOf R r = true
    · refine ⟨[some (.d (ofr n ls)), some (.d (lt R)), some (.own ((kept ++ [r]).map tu)), some (.d (tu r)), none], ?_, _, _, rfl, ?_⟩
      · have hm2 : (R.any fun o => !decide (o = r) && o.all fun x => decide (x ∈ r)) = false := by unfold minOf at hm; simpa using hm
        rw [hm2] at b
        simp [b_law_circuits_1, c, b, z, -List.all_eq_true]
      · rw [← hk, List.filter_cons, if_pos hm]; simp
    · refine ⟨[some (.d (ofr n ls)), some (.d (lt R)), some (.own (kept.map tu)), some (.d (tu r)), none], ?_, _, _, rfl, ?_⟩
      · have hm2 : (R.any fun o => !decide (o = r) && o.all fun x => decide (x ∈ r)) = true := by unfold minOf at hm; simpa using hm
        rw [hm2] at b
        simp [b_law_circuits_1, c, b, -List.all_eq_true]
      · rw [← hk, List.filter_cons, if_neg hm])
  obtain ⟨ρ1, e2, kept, o3, rfl, hk⟩ := key R [some (.d (ofr n ls)), some (.d (lt R)), some (.own []), none, none] ⟨[], none, rfl, rfl⟩
  have ek : kept = cs := by
    have e : kept = R.filter (minOf R) := by simpa using hk
    rw [e]
    have aR : Asd R := by rw [← hR]; exact aU.filter _
    refine asd_ext (aR.filter _) asd fun r => ?_
    rw [List.mem_filter, hRm, mem]
    constructor
    · rintro ⟨⟨a, b⟩, hm⟩
      refine ⟨a, b, fun x hx => ?_⟩
      by_cases f : Free n ls (lv r x)
      · exact f
      · exfalso
        unfold minOf at hm
        rw [Bool.not_eq_true', ← Bool.not_eq_true, List.any_eq_true] at hm
        refine hm ⟨lv r x, (hRm _).mpr ⟨lv_asc a, f⟩, ?_⟩
        rw [Bool.and_eq_true, List.all_eq_true]
        refine ⟨?_, fun y hy => decide_eq_true (mem_lv.mp hy).1⟩
        have : ¬ lv r x = r := fun e => by
          have := lv_len a.nodup hx
          rw [e] at this; omega
        simp [this]
    · rintro ⟨a, b, h⟩
      refine ⟨⟨a, b⟩, ?_⟩
      unfold minOf
      rw [Bool.not_eq_true', ← Bool.not_eq_true, List.any_eq_true]
      rintro ⟨o, ho, h2⟩
      rw [Bool.and_eq_true, List.all_eq_true] at h2
      have ⟨oa, of⟩ := (hRm o).mp ho
      have hs : ∀ y ∈ o, y ∈ r := fun y hy => of_decide_eq_true (h2.2 y hy)
      have hne : ¬ o = r := by simpa using h2.1
      obtain ⟨x, hx, hxo⟩ : ∃ x ∈ r, ¬ x ∈ o := by
        by_cases c : ∃ x ∈ r, ¬ x ∈ o
        · exact c
        · exact absurd (asc_ext oa.1 a.1 fun y => ⟨hs y, fun hy => by
            by_cases d : y ∈ o
            · exact d
            · exact absurd ⟨y, hy, d⟩ c⟩) hne
      obtain ⟨_, l, hl, q⟩ := h x hx
      exact of ⟨oa, l, hl, fun y hy => q y (mem_lv.mpr ⟨hs y hy, fun e => hxo (by rw [← e]; exact hy)⟩)⟩
  subst ek
  have e0 : dLst dNil [some (.d (ofr n ls)), some (.d (lt R)), none, none, none] = .ok (.list []) := by simp
  unfold g_law_circuits
  simp only [ev_seq, ev_set, c1]
  simp [e2, c1, -ev_lc]
end LW
set_option Elab.async false
set_option maxRecDepth 100000
set_option linter.all false
set_option maxHeartbeats 2000000
namespace LW
open PySem PySem.Spec PyProof.Rows L2 PD
@[simp] theorem oInT_tu' (k : List Int) (ks : List (List Int)) : oInT (tu k) (.dict (ks.map fun k => (tu k, PyData.bool true))) = .ok (.bool (decide (k ∈ ks))) := oInT_tu k ks
end LW
set_option Elab.async false
set_option maxRecDepth 100000
set_option linter.all false
set_option maxHeartbeats 2000000
set_option Elab.async false
set_option linter.all false
set_option maxRecDepth 100000
set_option maxHeartbeats 4000000
set_option Elab.async false
set_option maxRecDepth 100000
set_option linter.all false
set_option maxHeartbeats 2000000
set_option Elab.async false
set_option linter.all false
set_option maxRecDepth 100000
set_option maxHeartbeats 4000000
namespace LW
open PySem PySem.Spec PyProof.Rows L2 PD
/-- strong elimination: a circuit through x that leaves y out -/
theorem elim36 {n : Int} {ls : List (List Int)} (s : Smooth n ls) {c d : List Int} (hc : Circ n ls c) (hd : Circ n ls d) {x y : Int} (xc : x ∈ c) (xd : ¬ x ∈ d) (yc : y ∈ c) (yd : y ∈ d) : ∃ e, Circ n ls e ∧ x ∈ e ∧ ¬ y ∈ e ∧ ∀ z ∈ e, z ∈ c ∨ z ∈ d := by
  have hx := hc.1.2 x xc
  have hy := hc.1.2 y yc
  have xy : x ≠ y := fun h => xd (h ▸ yd)
  obtain ⟨A, hA⟩ : ∃ A, A = (c ++ d).filter fun z => decide (z ≠ x) && decide (z ≠ y) := ⟨_, rfl⟩
  have mA : ∀ z, z ∈ A ↔ (z ∈ c ∨ z ∈ d) ∧ z ≠ x ∧ z ≠ y := fun z => by
    rw [hA, List.mem_filter, List.mem_append, Bool.and_eq_true, decide_eq_true_eq, decide_eq_true_eq]
  have xA : ¬ x ∈ A := fun h => ((mA x).mp h).2.1 rfl
  have yA : ¬ y ∈ A := fun h => ((mA y).mp h).2.2 rfl
  have r1 : rank (A ++ [y]) ls = rank A ls := (span_circ s hy yA).mp ⟨d, hd, yd, fun z hz => by
    by_cases e : z = y
    · exact .inr e
    · exact .inl ((mA z).mpr ⟨.inr hz, fun e2 => xd (e2 ▸ hz), e⟩)⟩
  have r2 : rank ((A ++ [y]) ++ [x]) ls = rank (A ++ [y]) ls := (span_circ s hx (by
    rw [List.mem_append, List.mem_singleton]
    exact fun h => h.elim xA xy)).mp ⟨c, hc, xc, fun z hz => by
    by_cases e : z = x
    · exact .inr e
    · refine .inl ?_
      rw [List.mem_append, List.mem_singleton]
      by_cases e2 : z = y
      · exact .inr e2
      · exact .inl ((mA z).mpr ⟨.inl hz, e, e2⟩)⟩
  have r3 : rank (A ++ [x]) ls = rank A ls := by
    have a := rank_mono (n := n) (A := A) (B := A ++ [x]) s.good fun z hz => List.mem_append_left _ hz
    have b := rank_mono (n := n) (A := A ++ [x]) (B := (A ++ [y]) ++ [x]) s.good fun z hz => by
      rcases List.mem_append.mp hz with h | h
      · exact List.mem_append_left _ (List.mem_append_left _ h)
      · exact List.mem_append_right _ h
    omega
  obtain ⟨e, he, xe, sub⟩ := (span_circ s hx xA).mpr r3
  refine ⟨e, he, xe, fun ye => ?_, fun z hz => ?_⟩
  · rcases sub y ye with h | h
    · exact yA h
    · exact xy h.symm
  · rcases sub z hz with h | h
    · exact ((mA z).mp h).1
    · rw [h]; exact .inl xc
/-- how many things two sets have -/
def both36 (n : Int) (c d : List Int) : Nat := ((rangeI 0 n).filter fun z => decide (z ∈ c) || decide (z ∈ d)).length
theorem both_lt {n : Int} {c d c' d' : List Int} (h : ∀ z, z ∈ c' ∨ z ∈ d' → z ∈ c ∨ z ∈ d) {y : Int} (y0 : 0 ≤ y ∧ y < n) (hy : y ∈ c ∨ y ∈ d) (ny : ¬ (y ∈ c' ∨ y ∈ d')) : both36 n c' d' < both36 n c d := by
  unfold both36
  have e : (rangeI 0 n).filter (fun z => decide (z ∈ c') || decide (z ∈ d')) = ((rangeI 0 n).filter fun z => decide (z ∈ c) || decide (z ∈ d)).filter fun z => decide (z ∈ c') || decide (z ∈ d') := by
    rw [List.filter_filter]
    refine List.filter_congr fun z _ => ?_
    by_cases a : z ∈ c' ∨ z ∈ d'
    · have b := h z a
      have a1 : (decide (z ∈ c') || decide (z ∈ d')) = true := by rw [Bool.or_eq_true, decide_eq_true_eq, decide_eq_true_eq]; exact a
      have b1 : (decide (z ∈ c) || decide (z ∈ d)) = true := by rw [Bool.or_eq_true, decide_eq_true_eq, decide_eq_true_eq]; exact b
      rw [a1, b1]; rfl
    · have a1 : (decide (z ∈ c') || decide (z ∈ d')) = false := by
        rw [Bool.or_eq_false_iff, decide_eq_false_iff_not, decide_eq_false_iff_not]
        exact ⟨fun q => a (.inl q), fun q => a (.inr q)⟩
      rw [a1]; rfl
  rw [e]
  have hm : y ∈ (rangeI 0 n).filter fun z => decide (z ∈ c) || decide (z ∈ d) := List.mem_filter.mpr ⟨mem_rangeI.mpr y0, by rw [Bool.or_eq_true, decide_eq_true_eq, decide_eq_true_eq]; exact hy⟩
  have hle := List.length_filter_le (fun z => decide (z ∈ c') || decide (z ∈ d')) ((rangeI 0 n).filter fun z => decide (z ∈ c) || decide (z ∈ d))
  rcases Nat.lt_or_ge (((rangeI 0 n).filter fun z => decide (z ∈ c) || decide (z ∈ d)).filter fun z => decide (z ∈ c') || decide (z ∈ d')).length ((rangeI 0 n).filter fun z => decide (z ∈ c) || decide (z ∈ d)).length with q | q
  · exact q
  · exfalso
    have all := List.length_filter_eq_length_iff.mp (Nat.le_antisymm hle q) y hm
    rw [Bool.or_eq_true, decide_eq_true_eq, decide_eq_true_eq] at all
    exact ny all
/-- two circuits that meet: every thing of one and every thing of the other lie in a common circuit -/
theorem meet36 {n : Int} {ls : List (List Int)} (s : Smooth n ls) {x z : Int} : ∀ (m : Nat) (c d : List Int), both36 n c d = m → Circ n ls c → Circ n ls d → x ∈ c → z ∈ d → (∃ y, y ∈ c ∧ y ∈ d) → ∃ e, Circ n ls e ∧ x ∈ e ∧ z ∈ e := by
  intro m
  induction m using Nat.strongRecOn with
  | ind m ih =>
    intro c d hm hc hd xc zd hy
    by_cases xd : x ∈ d
    · exact ⟨d, hd, xd, zd⟩
    by_cases zc : z ∈ c
    · exact ⟨c, hc, xc, zc⟩
    obtain ⟨y, yc, yd⟩ := hy
    have y0 := hc.1.2 y yc
    obtain ⟨c3, h3, x3, y3, s3⟩ := elim36 s hc hd xc xd yc yd
    by_cases z3 : z ∈ c3
    · exact ⟨c3, h3, x3, z3⟩
    obtain ⟨c4, h4, z4, y4, s4⟩ := elim36 s hd hc zd zc yd yc
    by_cases x4 : x ∈ c4
    · exact ⟨c4, h4, x4, z4⟩
    -- c3 meets d outside c
    have m3 : ∃ w, w ∈ c3 ∧ w ∈ d ∧ ¬ w ∈ c := by
      refine Classical.byContradiction fun no => ?_
      have : c3 = c := circ_sub h3 hc fun w hw => by
        rcases s3 w hw with h | h
        · exact h
        · exact Classical.byContradiction fun nc => no ⟨w, hw, h, nc⟩
      exact y3 (this ▸ yc)
    have m4 : ∃ w, w ∈ c4 ∧ w ∈ c ∧ ¬ w ∈ d := by
      refine Classical.byContradiction fun no => ?_
      have : c4 = d := circ_sub h4 hd fun w hw => by
        rcases s4 w hw with h | h
        · exact h
        · exact Classical.byContradiction fun nc => no ⟨w, hw, h, nc⟩
      exact y4 (this ▸ yd)
    obtain ⟨w3, a3, b3, n3⟩ := m3
    obtain ⟨w4, a4, b4, n4⟩ := m4
    by_cases all : ∀ w, w ∈ c → ¬ w ∈ d → w ∈ c3
    · -- c3 and c4 meet, and leave y out
      exact ih (both36 n c3 c4) (by
        rw [← hm]
        exact both_lt (fun w hw => by
          rcases hw with h | h
          · exact s3 w h
          · exact (s4 w h).symm) y0 (.inl yc) (fun h => h.elim y3 y4)) c3 c4 rfl h3 h4 x3 z4 ⟨w4, all w4 b4 n4, a4⟩
    · -- c3 and d meet, and leave a thing of c out
      obtain ⟨w, hw⟩ := Classical.not_forall.mp all
      have wc : w ∈ c := Classical.byContradiction fun q => hw fun h => absurd h q
      have wd : ¬ w ∈ d := fun q => hw fun _ h => absurd q h
      have w3' : ¬ w ∈ c3 := fun q => hw fun _ _ => q
      exact ih (both36 n c3 d) (by
        rw [← hm]
        exact both_lt (fun v hv => by
          rcases hv with h | h
          · exact s3 v h
          · exact .inr h) (hc.1.2 w wc) (.inl wc) (fun h => h.elim w3' wd)) c3 d rfl h3 hd x3 zd ⟨w3, a3, b3⟩
/-- x and z are the same thing or lie in a common circuit -/
def Conn (n : Int) (ls : List (List Int)) (x z : Int) : Prop := x = z ∨ ∃ c, Circ n ls c ∧ x ∈ c ∧ z ∈ c
theorem Conn.symm {n : Int} {ls : List (List Int)} {x z : Int} (h : Conn n ls x z) : Conn n ls z x := by
  rcases h with h | ⟨c, a, b, d⟩
  · exact .inl h.symm
  · exact .inr ⟨c, a, d, b⟩
theorem Conn.trans {n : Int} {ls : List (List Int)} (s : Smooth n ls) {x y z : Int} (h : Conn n ls x y) (k : Conn n ls y z) : Conn n ls x z := by
  rcases h with rfl | ⟨c, hc, xc, yc⟩
  · exact k
  rcases k with rfl | ⟨d, hd, yd, zd⟩
  · exact .inr ⟨c, hc, xc, yc⟩
  obtain ⟨e, he, xe, ze⟩ := meet36 s _ c d rfl hc hd xc zd ⟨y, yc, yd⟩
  exact .inr ⟨e, he, xe, ze⟩
/-- T is closed under common circuits -/
def Shut (n : Int) (ls : List (List Int)) (T : Int → Bool) : Prop := ∀ c, Circ n ls c → (∃ y ∈ c, T y = true) → ∀ y ∈ c, T y = true
def mix36 (n : Int) (T : Int → Bool) (X Y : List Int) : List Int := (rangeI 0 n).filter fun z => if T z = true then decide (z ∈ Y) else decide (z ∈ X)
theorem mem_mix {n : Int} {T : Int → Bool} {X Y : List Int} {z : Int} : z ∈ mix36 n T X Y ↔ (0 ≤ z ∧ z < n) ∧ (if T z = true then z ∈ Y else z ∈ X) := by
  unfold mix36
  rw [List.mem_filter, mem_rangeI]
  split <;> simp
theorem mix_asc (n : Int) (T : Int → Bool) (X Y : List Int) : Asc n (mix36 n T X Y) := asc_rest n _
theorem mix_free {n : Int} {ls : List (List Int)} {T : Int → Bool} (sh : Shut n ls T) {X Y : List Int} (hX : X ∈ ls) (hY : Y ∈ ls) : Free n ls (mix36 n T X Y) := by
  refine Classical.byContradiction fun nf => ?_
  obtain ⟨c, hc, sub⟩ := circ_in _ _ rfl (mix_asc n T X Y) nf
  by_cases m : ∃ y ∈ c, T y = true
  · have all := sh c hc m
    exact hc.2.1 ⟨hc.1, Y, hY, fun z hz => by
      have := (mem_mix.mp (sub z hz)).2
      rwa [if_pos (all z hz)] at this⟩
  · exact hc.2.1 ⟨hc.1, X, hX, fun z hz => by
      have := (mem_mix.mp (sub z hz)).2
      rwa [if_neg fun q => m ⟨z, hz, q⟩] at this⟩
end LW
set_option Elab.async false
set_option linter.all false
set_option maxRecDepth 100000
set_option maxHeartbeats 4000000
namespace LW
open PySem PySem.Spec PyProof.Rows L2 PD
theorem split_len (T a b : Int → Bool) (l : List Int) : (l.filter fun z => if T z = true then b z else a z).length + (l.filter fun z => a z && T z).length = (l.filter a).length + (l.filter fun z => b z && T z).length := by
  induction l with
  | nil => rfl
  | cons z l ih =>
    rw [List.filter_cons, List.filter_cons, List.filter_cons, List.filter_cons]
    cases hT : T z <;> cases ha : a z <;> cases hb : b z <;> simp only [Bool.and_true, Bool.and_false, if_true, if_false, Bool.false_eq_true, List.length_cons] <;> omega
theorem split36 {n : Int} {T : Int → Bool} {X Y : List Int} (hX : Asc n X) (hY : Asc n Y) : (mix36 n T X Y).length + (X.filter T).length = X.length + (Y.filter T).length := by
  have e : ∀ {Z : List Int}, Asc n Z → ∀ p : Int → Bool, (Z.filter p).length = ((rangeI 0 n).filter fun z => decide (z ∈ Z) && p z).length := fun {Z} hZ p => by
    refine Nat.le_antisymm ?_ ?_
    · exact sub_len (filter_asc hZ p).1 (asc_rest n _).1 fun y hy => List.mem_filter.mpr ⟨mem_rangeI.mpr (hZ.2 y (List.mem_filter.mp hy).1), by rw [(List.mem_filter.mp hy).2, Bool.and_true]; exact decide_eq_true (List.mem_filter.mp hy).1⟩
    · exact sub_len (asc_rest n _).1 (filter_asc hZ p).1 fun y hy => by
        have h := (List.mem_filter.mp hy).2
        rw [Bool.and_eq_true] at h
        exact List.mem_filter.mpr ⟨of_decide_eq_true h.1, h.2⟩
  have eX : X.length = ((rangeI 0 n).filter fun z => decide (z ∈ X)).length := by
    have := e hX (fun _ => true)
    rw [List.filter_eq_self.mpr fun _ _ => rfl] at this
    rw [this]
    congr 2
    funext z
    rw [Bool.and_true]
  rw [e hX, e hY, eX]
  exact split_len T _ _ _
theorem part_le {n : Int} {ls : List (List Int)} (s : Smooth n ls) {T : Int → Bool} (sh : Shut n ls T) {X Y : List Int} (hX : X ∈ ls) (hY : Y ∈ ls) : (Y.filter T).length ≤ (X.filter T).length := by
  obtain ⟨L, hL, sub⟩ := (mix_free sh hX hY).2
  have e := split36 (T := T) (s.good.asc X hX) (s.good.asc Y hY)
  have a : (mix36 n T X Y).length ≤ L.length := sub_len (mix_asc n T X Y).1 (s.good.asc L hL).1 sub
  have b := s.eqs L hL X hX
  omega
theorem mix_lot {n : Int} {ls : List (List Int)} (s : Smooth n ls) {T : Int → Bool} (sh : Shut n ls T) {X Y : List Int} (hX : X ∈ ls) (hY : Y ∈ ls) : mix36 n T X Y ∈ ls := by
  obtain ⟨L, hL, sub⟩ := (mix_free sh hX hY).2
  have e := split36 (T := T) (s.good.asc X hX) (s.good.asc Y hY)
  have p1 := part_le s sh hX hY
  have p2 := part_le s sh hY hX
  have b := s.eqs L hL X hX
  have hLa := s.good.asc L hL
  have : mix36 n T X Y = L := by
    have sl : (mix36 n T X Y).length = L.length := by omega
    have sb : (mix36 n T X Y).Sublist L := by
      have : mix36 n T X Y = L.filter fun z => decide (z ∈ mix36 n T X Y) := by
        refine List.Perm.eq_of_pairwise (le := fun x y : Int => x < y) (fun x y _ _ h1 h2 => by omega) (mix_asc n T X Y).1 (filter_asc hLa _).1 ?_
        refine (List.perm_ext_iff_of_nodup ((mix_asc n T X Y).1.imp fun {x y} h e => by omega) ((filter_asc hLa _).1.imp fun {x y} h e => by omega)).mpr fun z => ?_
        rw [List.mem_filter, decide_eq_true_eq]
        exact ⟨fun h => ⟨sub z h, h⟩, fun h => h.2⟩
      rw [this]
      exact List.filter_sublist
    exact sb.eq_of_length sl
  rw [this]
  exact hL
/-- the different values, first met first -/
def dist36 {β : Type} [DecidableEq β] : List β → List β
  | [] => []
  | x :: l => if x ∈ dist36 l then dist36 l else x :: dist36 l
theorem mem_dist {β : Type} [DecidableEq β] {x : β} : ∀ {l : List β}, x ∈ dist36 l ↔ x ∈ l
  | [] => Iff.rfl
  | y :: l => by
    unfold dist36
    split
    · rename_i h
      rw [mem_dist, List.mem_cons]
      exact ⟨.inr, fun q => q.elim (fun e => e ▸ mem_dist.mp h) id⟩
    · rw [List.mem_cons, List.mem_cons, mem_dist]
theorem dist_nodup {β : Type} [DecidableEq β] : ∀ l : List β, (dist36 l).Nodup
  | [] => .nil
  | y :: l => by
    unfold dist36
    split
    · exact dist_nodup l
    · rename_i h
      exact List.nodup_cons.mpr ⟨h, dist_nodup l⟩
/-- if any two values go together, the pairs are counted by a product -/
theorem dist_mul {α β γ : Type} [DecidableEq β] [DecidableEq γ] (l : List α) (f : α → β) (g : α → γ) (h : ∀ x ∈ l, ∀ y ∈ l, ∃ z ∈ l, f z = f x ∧ g z = g y) : (dist36 (l.map fun x => (f x, g x))).length = (dist36 (l.map f)).length * (dist36 (l.map g)).length := by
  have nd : ((dist36 (l.map f)).flatMap fun a => (dist36 (l.map g)).map fun b => (a, b)).Nodup := by
    refine List.pairwise_flatMap.mpr ⟨fun a _ => List.pairwise_map.mpr ((dist_nodup _).imp fun {x y} ne e => ne (Prod.mk.inj e).2), (dist_nodup (l.map f)).imp fun {a b} ne => ?_⟩
    intro x hx y hy e
    obtain ⟨_, _, rfl⟩ := List.mem_map.mp hx
    obtain ⟨_, _, rfl⟩ := List.mem_map.mp hy
    exact ne (Prod.mk.inj e).1
  have p : (dist36 (l.map fun x => (f x, g x))).Perm ((dist36 (l.map f)).flatMap fun a => (dist36 (l.map g)).map fun b => (a, b)) := (List.perm_ext_iff_of_nodup (dist_nodup _) nd).mpr fun q => by
    rw [mem_dist, List.mem_map, List.mem_flatMap]
    constructor
    · rintro ⟨x, hx, rfl⟩
      exact ⟨f x, mem_dist.mpr (List.mem_map_of_mem hx), List.mem_map.mpr ⟨g x, mem_dist.mpr (List.mem_map_of_mem hx), rfl⟩⟩
    · rintro ⟨a, ha, hq⟩
      obtain ⟨b, hb, rfl⟩ := List.mem_map.mp hq
      obtain ⟨x, hx, rfl⟩ := List.mem_map.mp (mem_dist.mp ha)
      obtain ⟨y, hy, rfl⟩ := List.mem_map.mp (mem_dist.mp hb)
      obtain ⟨z, hz, e1, e2⟩ := h x hx y hy
      exact ⟨z, hz, by rw [e1, e2]⟩
  rw [p.length_eq]
  generalize dist36 (l.map f) = A
  generalize dist36 (l.map g) = B
  induction A with
  | nil => simp
  | cons a A ih => rw [List.flatMap_cons, List.length_append, List.length_map, ih, List.length_cons, Nat.add_mul, Nat.one_mul, Nat.add_comm]
end LW
set_option Elab.async false
set_option linter.all false
set_option maxRecDepth 100000
set_option maxHeartbeats 4000000
namespace LW
open PySem PySem.Spec PyProof.Rows L2 PD
theorem cons_of {f : Dn} {g : DnL} {ρ : Rho} {a : PyData} {as : List PyData} (h1 : f ρ = .ok a) (h2 : g ρ = .ok as) : dCons f g ρ = .ok (a :: as) := by rw [ev_cons, h1, R.bind_ok, h2, R.bind_ok]
theorem arg_of {m : List PyData → PD.R PyData} {g : DnL} {ρ : Rho} {as : List PyData} (h : g ρ = .ok as) : dArg m g ρ = m as := by rw [ev_arg, h, R.bind_ok]
theorem two_of {u : PyData → PyData → PD.R PyData} {f g : Dn} {ρ : Rho} {a b : PyData} (h1 : f ρ = .ok a) (h2 : g ρ = .ok b) : dTwo u f g ρ = u a b := by rw [ev_two, h1, R.bind_ok, h2, R.bind_ok]
theorem one_of {u : PyData → PD.R PyData} {f : Dn} {ρ : Rho} {a : PyData} (h1 : f ρ = .ok a) : dOne u f ρ = u a := by rw [ev_one, h1, R.bind_ok]
theorem set_of {f : Dn} {t : Tg} {ρ ρ' : Rho} {d : PyData} (h : f ρ = .ok d) (h2 : t.set d ρ = some ρ') : gSet f t ρ = .nx ρ' := by rw [ev_set, h, oR_ok, h2]; rfl
theorem ret_of {f : Dn} {ρ : Rho} {d : PyData} (h : f ρ = .ok d) : gRet f ρ = .rt d := by rw [ev_ret, h, oR_ok]
theorem seq_of {g h : Sn} {ρ ρ' : Rho} (h1 : g ρ = .nx ρ') : gSeq g h ρ = h ρ' := by rw [ev_seq, h1, seqO_nx]
theorem asB_of {f : Dn} {ρ : Rho} {b : Bool} (h : f ρ = .ok (.bool b)) : dAsB f ρ = .ok b := by rw [ev_asB, h, R.bind_ok]; rfl
theorem if_t {c : DnB} {g h : Sn} {ρ : Rho} (e : c ρ = .ok true) : gIf c g h ρ = g ρ := by rw [ev_ifs, e, oR_ok, if_pos rfl]
theorem if_f {c : DnB} {g h : Sn} {ρ : Rho} (e : c ρ = .ok false) : gIf c g h ρ = h ρ := by rw [ev_ifs, e, oR_ok, if_neg (by decide)]
theorem not_of {f : DnB} {ρ : Rho} {b : Bool} (h : f ρ = .ok b) : dNot f ρ = .ok (!b) := by rw [ev_not, h, R.bind_ok]
theorem or_ff {f g : DnB} {ρ : Rho} (h1 : f ρ = .ok false) (h2 : g ρ = .ok false) : dOr f g ρ = .ok false := by rw [ev_or, h1, R.bind_ok, if_neg (by decide), h2]
theorem seq_if_f {c : DnB} {g h : Sn} {ρ : Rho} (e : c ρ = .ok false) : gSeq (gIf c g gSkip) h ρ = h ρ := seq_of ((if_f e).trans rfl)
theorem tupl_of {g : DnL} {ρ : Rho} {as : List PyData} (h : g ρ = .ok as) (hz : as.length ≤ 1000 := by simp) : dTup g ρ = .ok (.tuple as) := by
  show (g ρ >>= _) = _
  rw [h, R.bind_ok, if_pos (by rw [sizeLine_eq]; omega)]
theorem and_V {f g : Dn} {ρ : Rho} {a b : Bool} (h1 : f ρ = .ok (.bool a)) (h2 : g ρ = .ok (.bool b)) : dAndV f g ρ = .ok (.bool (a && b)) := by
  rw [ev_andV, h1, R.bind_ok, show asB (.bool a) = .ok a from rfl, R.bind_ok]
  cases a
  · rfl
  · rw [if_pos rfl, h2]; rfl
theorem and_t {f g : DnB} {ρ : Rho} {b : Bool} (h1 : f ρ = .ok true) (h2 : g ρ = .ok b) : dAnd f g ρ = .ok b := by rw [ev_and, h1, R.bind_ok, if_pos rfl, h2]
theorem and_f {f g : DnB} {ρ : Rho} (h1 : f ρ = .ok false) : dAnd f g ρ = .ok false := by rw [ev_and, h1, R.bind_ok]; rfl
theorem ix_tt36 (L : List (List Int)) {i : Int} (h0 : 0 ≤ i) (h1 : i < (L.length : Int)) : oIx (tt L) (.int i) = .ok (tu (ixr L i)) := by
  have h : L[i.toNat]? = some L[i.toNat] := List.getElem?_eq_getElem (by omega)
  rw [oIx_tt h0 h]
  unfold ixr
  rw [h]
  rfl
end LW
set_option Elab.async false
set_option linter.all false
set_option maxRecDepth 100000
set_option maxHeartbeats 4000000
namespace LW
open PySem PySem.Spec PyProof.Rows L2 PD
theorem nodup_insK36 : ∀ {ks acc : List (List Int)}, acc.Nodup → (ks.foldl insK acc).Nodup
  | [], _, h => h
  | k :: ks, acc, h => by
    rw [List.foldl_cons]
    refine nodup_insK36 ?_
    unfold insK
    split
    · exact h
    · rename_i hk
      rw [List.nodup_append]
      exact ⟨h, by simp, fun a ha b hb e => hk (by rw [← List.mem_singleton.mp hb, ← e]; exact ha)⟩
theorem sortSc_ok36 {fi : DnL} {t : Tg} {ft : DnB} {fe : Dn} {vs : List Nat} {ρ : Rho} {ds : List PyData} {ks : List (List Int)} (h1 : fi ρ = .ok ds) (h2 : dcGo t ft fe (wipeR ρ vs) ds [] = .ok ks) (h3 : ks.length < 63) (h4 : ∀ k ∈ ks, k.length ≤ 100000) : dSortSc fi t ft fe vs ρ = .ok (lt (sortT ks)) := by
  unfold dSortSc
  rw [h1, R.bind_ok, h2, nx_ok', if_pos]
  · have : sortD (ks.map fun k => PyData.tuple (k.map .int)) = (sortT ks).map tu := (sortD_tus ks).1
    rw [this]; rfl
  · refine ⟨h3, List.all_eq_true.mpr fun k hk => decide_eq_true ?_⟩
    have := h4 k hk
    rw [sizeLine_eq]; omega
theorem asc_few {n : Int} (h0 : 0 ≤ n) (h6 : n ≤ 6) {cs : List (List Int)} (nd : cs.Nodup) (h : ∀ c ∈ cs, Asc n c) : cs.length ≤ 64 := by
  obtain ⟨rows, _, mem, len, _⟩ := v_parts2 n h0 (by omega)
  have a := nodup_len nd (ys := rows) fun c hc => (mem c).mpr (h c hc)
  have b : 2 ^ n.toNat ≤ 2 ^ 6 := Nat.pow_le_pow_right (by decide) (by omega)
  rw [len] at a
  exact Nat.le_trans a b
/-- x and what lies in a circuit with it -/
def cls36 (cs : List (List Int)) (x : Int) : List Int := uniq ((cs.filter fun c => decide (x ∈ c)).flatMap (fun c => c) ++ [x])
theorem mem_cls {cs : List (List Int)} {x z : Int} : z ∈ cls36 cs x ↔ x = z ∨ ∃ c ∈ cs, x ∈ c ∧ z ∈ c := by
  unfold cls36
  rw [mem_uniq, List.mem_append, List.mem_singleton, List.mem_flatMap]
  constructor
  · rintro (⟨c, hc, h⟩ | h)
    · rw [List.mem_filter, decide_eq_true_eq] at hc
      exact .inr ⟨c, hc.1, hc.2, h⟩
    · exact .inl h.symm
  · rintro (h | ⟨c, hc, a, b⟩)
    · exact .inr h.symm
    · exact .inl ⟨c, List.mem_filter.mpr ⟨hc, decide_eq_true a⟩, b⟩
theorem cls_asc {n : Int} {cs : List (List Int)} (h : ∀ c ∈ cs, Asc n c) {x : Int} (hx : 0 ≤ x ∧ x < n) : Asc n (cls36 cs x) := ⟨uniq_asc _, fun z hz => by
  rcases mem_cls.mp hz with e | ⟨c, hc, _, zc⟩
  · rw [← e]; exact hx
  · exact (h c hc).2 z zc⟩
theorem asc_le6 {n : Int} {l : List Int} (h : Asc n l) (h6 : n ≤ 6) : l.length ≤ 6 := by
  have := h.len
  omega
theorem flat_le36 {l : List (List Int)} {b : Nat} (h : ∀ c ∈ l, c.length ≤ b) : (l.flatMap fun c => c).length ≤ l.length * b := by
  induction l with
  | nil => simp
  | cons c l ih =>
    rw [List.flatMap_cons, List.length_append, List.length_cons, Nat.succ_mul]
    have := h c List.mem_cons_self
    have := ih fun x hx => h x (List.mem_cons_of_mem _ hx)
    omega
theorem v_things_with {n : Int} (h0 : 0 ≤ n) (h6 : n ≤ 6) {cs : List (List Int)} (nd : cs.Nodup) (h : ∀ c ∈ cs, Asc n c) {x : Int} (hx : 0 ≤ x ∧ x < n) : m_things_with [.int x, tt cs] = .ok (tu (cls36 cs x)) := by
  have few := asc_few h0 h6 nd h
  obtain ⟨F, hF⟩ : ∃ F, F = (cs.filter fun c => decide (x ∈ c)).flatMap (fun c => c) := ⟨_, rfl⟩
  have fl : F.length ≤ 384 := by
    rw [hF]
    have a := flat_le36 (l := cs.filter fun c => decide (x ∈ c)) (b := 6) fun c hc => asc_le6 (h c (List.mem_filter.mp hc).1) h6
    have b := List.length_filter_le (fun c => decide (x ∈ c)) cs
    have : (cs.filter fun c => decide (x ∈ c)).length * 6 ≤ 64 * 6 := Nat.mul_le_mul_right 6 (by omega)
    omega
  let r0 : Option Sl → Option Sl → Option Sl → Rho := fun a b c => [some (.d (.int x)), some (.d (tt cs)), a, b, c]
  have lc := lc2_of (enc := tu) (fi := dItems (dVar 1)) (t := .nm 3) (ft := dAsB (dTwo oIn (dVar 0) (dVar 3))) (fi1 := dItems (dVar 3)) (t1 := .nm 4) (ft1 := dYes) (fe := dVar 4) (vs := [3, 4]) (vs1 := [4]) (ρ := r0 none none none) (xs := cs) (st := fun c => r0 none (some (.d (tu c))) none) (q := fun c => decide (x ∈ c)) (es := fun c => c.map PyData.int) (ys := fun c => c.map PyData.int) rfl (fun c hc => ⟨rfl, asB_of ((two_of (u := oIn) (f := dVar 0) (a := .int x) (g := dVar 3) (b := tu c) rfl rfl).trans (oIn_tu x c)), fun _ => ⟨rfl, by
    have g := lcGo_of (enc := PyData.int) (t := .nm 4) (ft := dYes) (fe := dVar 4) (ρ := wipeR (r0 none (some (.d (tu c))) none) [4]) (st := fun y => (wipeR (r0 none (some (.d (tu c))) none) [4]).set 4 (some (.d (.int y)))) (q := fun _ => true) (g := PyData.int) (xs := c) fun y _ => ⟨set_nm _ _ _, rfl, fun _ => rfl⟩
    rw [List.filter_eq_self.mpr fun _ _ => rfl] at g
    exact g⟩⟩) (by
    have e : (cs.filter fun c => decide (x ∈ c)).flatMap (fun c => c.map PyData.int) = F.map PyData.int := by rw [hF, List.map_flatMap]
    rw [e, List.length_map]; omega)
  have e : (cs.filter fun c => decide (x ∈ c)).flatMap (fun c => c.map PyData.int) = F.map PyData.int := by rw [hF, List.map_flatMap]
  rw [e] at lc
  have s1 : gSet (dLc2 (dItems (dVar 1)) (.nm 3) (dAsB (dTwo oIn (dVar 0) (dVar 3))) (dItems (dVar 3)) (.nm 4) dYes (dVar 4) [3, 4] [4]) (.nm 2) (r0 none none none) = .nx (r0 (some (.d (li F))) none none) := set_of lc (set_nm _ _ _)
  have ul : (uniq (F ++ [x])).length ≤ 6 := by
    have : uniq (F ++ [x]) = cls36 cs x := by rw [hF]; rfl
    rw [this]
    exact asc_le6 (cls_asc h hx) h6
  have s2 : dArg bTuple (dCons (dOne bSortSetW (dTwo oAdd (dVar 2) (dLst (dCons (dVar 0) dNil)))) dNil) (r0 (some (.d (li F))) none none) = .ok (tu (cls36 cs x)) := by
    have a : dTwo oAdd (dVar 2) (dLst (dCons (dVar 0) dNil)) (r0 (some (.d (li F))) none none) = .ok (li (F ++ [x])) := (two_of (u := oAdd) (f := dVar 2) (a := li F) (b := li [x]) rfl rfl).trans (by
      show (if (F.map PyData.int).length + ([x].map PyData.int).length ≤ sizeLine then PD.R.ok (PyData.list (F.map PyData.int ++ [x].map PyData.int)) else _) = _
      rw [if_pos (by rw [List.length_map, sizeLine_eq]; simp; omega), ← List.map_append]
      rfl)
    have b : bSortSetW (li (F ++ [x])) = .ok (li (uniq (F ++ [x]))) := by
      show ofO (asInts ((F ++ [x]).map PyData.int)) _ = _
      rw [asInts_map]
      show (if _ then _ else _) = _
      rw [if_pos ⟨by omega, by rw [List.length_append, List.length_singleton]; omega⟩]
      rfl
    refine (arg_of (m := bTuple) (cons_of (g := dNil) ((one_of a).trans b) rfl)).trans ?_
    rw [hF]
    rfl
  show endR (g_things_with (r0 none none none)) = _
  unfold g_things_with
  rw [seq_of s1, ret_of s2]
  rfl
def pcs36 (n : Int) (cs : List (List Int)) : List (List Int) := sortT (((rangeI 0 n).map (cls36 cs)).foldl insK [])
theorem v_pieces {n : Int} {ls : List (List Int)} (h0 : 0 ≤ n) (h6 : n ≤ 6) (g : Good n ls) : ∃ cs : List (List Int), Asd cs ∧ (∀ r, r ∈ cs ↔ Circ n ls r) ∧ m_pieces [ofr n ls] = .ok (tt (pcs36 n cs)) := by
  obtain ⟨cs, ec, asd, mem, _⟩ := v_circuits n ls h0 (by omega) g
  have ha : ∀ c ∈ cs, Asc n c := fun c hc => ((mem c).mp hc).1
  refine ⟨cs, asd, mem, ?_⟩
  let r0 : Option Sl → Option Sl → Rho := fun a b => [some (.d (ofr n ls)), a, b]
  have s1 : gSet (dArg m_circuits (dCons (dVar 0) dNil)) (.nm 1) (r0 none none) = .nx (r0 (some (.d (tt cs))) none) := set_of ((arg_of (m := m_circuits) (cons_of (f := dVar 0) (g := dNil) rfl rfl)).trans ec) (set_nm _ _ _)
  have dc := dcGo_all (enc := PyData.int) (kf := cls36 cs) (i := 2) (fk := dArg m_things_with (dCons (dVar 2) (dCons (dVar 1) dNil))) (ρ := wipeR (r0 (some (.d (tt cs))) none) [2]) (xs := rangeI 0 n) (acc := []) fun x hx => (arg_of (m := m_things_with) (cons_of (f := dVar 2) (a := .int x) rfl (cons_of (f := dVar 1) (a := tt cs) (g := dNil) rfl rfl))).trans (v_things_with h0 h6 asd.nodup ha (mem_rangeI.mp hx))
  have few : (((rangeI 0 n).map (cls36 cs)).foldl insK []).length ≤ 6 := by
    have nd := nodup_insK36 (ks := (rangeI 0 n).map (cls36 cs)) (acc := []) .nil
    have := nodup_len nd (ys := (rangeI 0 n).map (cls36 cs)) fun x hx => by
      rcases mem_foldK.mp hx with h | h
      · cases h
      · exact h
    rw [List.length_map, rangeI_len] at this
    omega
  have sc := sortSc_ok36 (fi := dRng1 (dCons (dTwo oIx (dVar 0) (dC (.int 0))) dNil)) (t := .nm 2) (ft := dYes) (fe := dArg m_things_with (dCons (dVar 2) (dCons (dVar 1) dNil))) (vs := [2]) (ρ := r0 (some (.d (tt cs))) none) (ds := (rangeI 0 n).map PyData.int) (by
    have a := cons_of (g := dNil) ((two_of (u := oIx) (f := dVar 0) (a := ofr n ls) (g := dC (.int 0)) (b := .int 0) (ρ := r0 (some (.d (tt cs))) none) rfl rfl).trans (of_p0 n ls)) rfl
    show ((dCons _ dNil) _ >>= rngA1) = _
    rw [a, R.bind_ok, rngA1_ok (by omega) (by omega)]) dc (by omega) fun k hk => by
      rcases mem_foldK.mp hk with h | h
      · cases h
      · obtain ⟨x, hx, rfl⟩ := List.mem_map.mp h
        have := asc_le6 (cls_asc ha (mem_rangeI.mp hx)) h6
        omega
  show endR (g_pieces (r0 none none)) = _
  unfold g_pieces
  rw [seq_of s1, ret_of ((arg_of (m := bTuple) (cons_of (g := dNil) sc rfl)).trans rfl)]
  rfl
end LW
set_option Elab.async false
set_option linter.all false
set_option maxRecDepth 100000
set_option maxHeartbeats 4000000
namespace LW
open PySem PySem.Spec PyProof.Rows L2 PD
theorem one_len {α : Type} {l : List α} (nd : l.Nodup) {p : α} (hp : p ∈ l) (all : ∀ a ∈ l, a = p) : l.length = 1 := by
  match l, nd, hp, all with
  | [_], _, _, _ => rfl
  | a :: b :: l, nd, _, all =>
    have e1 := all a (by simp)
    have e2 := all b (by simp)
    rw [e1, e2] at nd
    exact absurd List.mem_cons_self (List.nodup_cons.mp nd).1
section
variable {n : Int} {ls cs : List (List Int)} (h0 : 0 ≤ n) (h6 : n ≤ 6) (s : Smooth n ls) (asd : Asd cs) (mem : ∀ r, r ∈ cs ↔ Circ n ls r)
include mem
theorem cls_conn {x z : Int} : z ∈ cls36 cs x ↔ Conn n ls x z := by
  rw [mem_cls]
  unfold Conn
  constructor
  · rintro (h | ⟨c, hc, a, b⟩)
    · exact .inl h
    · exact .inr ⟨c, (mem c).mp hc, a, b⟩
  · rintro (h | ⟨c, hc, a, b⟩)
    · exact .inl h
    · exact .inr ⟨c, (mem c).mpr hc, a, b⟩
theorem mem_pcs {p : List Int} : p ∈ pcs36 n cs ↔ ∃ x, (0 ≤ x ∧ x < n) ∧ cls36 cs x = p := by
  unfold pcs36
  rw [(sortT_perm _).mem_iff, mem_foldK, List.mem_map]
  constructor
  · rintro (h | ⟨x, hx, e⟩)
    · cases h
    · exact ⟨x, mem_rangeI.mp hx, e⟩
  · rintro ⟨x, hx, e⟩
    exact .inr ⟨x, mem_rangeI.mpr hx, e⟩
theorem pcs_asd : Asd (pcs36 n cs) := asd_sortT (nodup_insK36 .nil)
include s
theorem cls_eq {x y : Int} (h : Conn n ls x y) : cls36 cs x = cls36 cs y := asc_uniq (uniq_asc _) (uniq_asc _) fun z => by
  show z ∈ cls36 cs x ↔ z ∈ cls36 cs y
  rw [cls_conn mem, cls_conn mem]
  exact ⟨fun q => h.symm.trans s q, fun q => h.trans s q⟩
theorem pcs_one {x : Int} (hx : 0 ≤ x ∧ x < n) : ((pcs36 n cs).filter fun p => decide (x ∈ p)).length = 1 := by
  refine one_len ((pcs_asd mem).nodup.filter _) (p := cls36 cs x) (List.mem_filter.mpr ⟨(mem_pcs mem).mpr ⟨x, hx, rfl⟩, decide_eq_true ((cls_conn mem).mpr (.inl rfl))⟩) fun a ha => ?_
  obtain ⟨h1, h2⟩ := List.mem_filter.mp ha
  obtain ⟨z, hz, rfl⟩ := (mem_pcs mem).mp h1
  exact cls_eq s mem ((cls_conn mem).mp (of_decide_eq_true h2))
theorem pcs_alike {x y : Int} (hx : 0 ≤ x ∧ x < n) (ne : x ≠ y) : ((pcs36 n cs).any fun p => decide (x ∈ p) && decide (y ∈ p)) = (cs.any fun c => decide (x ∈ c) && decide (y ∈ c)) := by
  rw [Bool.eq_iff_iff, List.any_eq_true, List.any_eq_true]
  constructor
  · rintro ⟨p, hp, h⟩
    rw [Bool.and_eq_true, decide_eq_true_eq, decide_eq_true_eq] at h
    obtain ⟨z, hz, rfl⟩ := (mem_pcs mem).mp hp
    have a := (cls_conn mem).mp h.1
    have b := (cls_conn mem).mp h.2
    rcases a.symm.trans s b with e | ⟨c, hc, xc, yc⟩
    · exact absurd e ne
    · exact ⟨c, (mem c).mpr hc, by rw [Bool.and_eq_true, decide_eq_true_eq, decide_eq_true_eq]; exact ⟨xc, yc⟩⟩
  · rintro ⟨c, hc, h⟩
    rw [Bool.and_eq_true, decide_eq_true_eq, decide_eq_true_eq] at h
    exact ⟨cls36 cs x, (mem_pcs mem).mpr ⟨x, hx, rfl⟩, by
      rw [Bool.and_eq_true, decide_eq_true_eq, decide_eq_true_eq]
      exact ⟨(cls_conn mem).mpr (.inl rfl), (cls_conn mem).mpr (.inr ⟨c, (mem c).mp hc, h.1, h.2⟩)⟩⟩
include h0 h6
theorem v_are_pieces : m_law_are_pieces [tt (pcs36 n cs), ofr n ls, lt cs] = .ok (.bool true) := by
  have ha : ∀ c ∈ cs, Asc n c := fun c hc => ((mem c).mp hc).1
  have pa : ∀ p ∈ pcs36 n cs, Asc n p := fun p hp => by
    obtain ⟨x, hx, rfl⟩ := (mem_pcs mem).mp hp
    exact cls_asc ha hx
  have asdT := pcs_asd (n := n) mem
  obtain ⟨T, hT⟩ : ∃ T, T = pcs36 n cs := ⟨_, rfl⟩
  have one : ∀ x, 0 ≤ x ∧ x < n → (T.filter fun p => decide (x ∈ p)).length = 1 := fun x hx => by rw [hT]; exact pcs_one s mem hx
  have alike : ∀ x y, 0 ≤ x ∧ x < n → x ≠ y → (T.any fun p => decide (x ∈ p) && decide (y ∈ p)) = (cs.any fun c => decide (x ∈ c) && decide (y ∈ c)) := fun x y hx ne => by rw [hT]; exact pcs_alike s mem hx ne
  have nonempty : ∀ p ∈ T, p.length ≠ 0 := fun p hp => by
    rw [hT] at hp
    obtain ⟨x, hx, rfl⟩ := (mem_pcs mem).mp hp
    have : x ∈ cls36 cs x := (cls_conn mem).mpr (.inl rfl)
    exact fun z => by rw [List.eq_nil_of_length_eq_zero z] at this; cases this
  have few : T.length ≤ 6 := by
    have nd : T.Nodup := by rw [hT]; exact asdT.nodup
    have := nodup_len nd (ys := (rangeI 0 n).map (cls36 cs)) fun p hp => by
      rw [hT] at hp
      obtain ⟨x, hx, rfl⟩ := (mem_pcs mem).mp hp
      exact List.mem_map_of_mem (mem_rangeI.mpr hx)
    rw [List.length_map, rangeI_len] at this
    omega
  rw [← hT] at pa asdT ⊢
  let r0 : Option Sl → Option Sl → Option Sl → Option Sl → Option Sl → Option Sl → Rho := fun a b c d e f => [some (.d (tt T)), some (.d (ofr n ls)), some (.d (lt cs)), a, b, c, d, e, f]
  have q0 : dNot (dAsB (dOne (oIsi "tuple") (dVar 0))) (r0 none none none none none none) = .ok false := not_of (b := true) (asB_of ((one_of (f := dVar 0) (a := tt T) rfl).trans rfl))
  -- the pieces are sets, and ascend
  obtain ⟨ρ1, e1, ⟨a1, rfl⟩, _⟩ := forGo_inv (i := 3) (g := b_law_are_pieces_1) (enc := PyData.int) (fun xs ρ => (∃ a, ρ = r0 a none none none none none) ∧ ∀ k ∈ xs, 0 ≤ k ∧ k < (T.length : Int)) (by
    rintro k xs ρ ⟨⟨a, rfl⟩, hk⟩
    obtain ⟨k0, k1⟩ := hk k List.mem_cons_self
    refine ⟨r0 (some (.d (.int k))) none none none none none, ?_, ⟨_, rfl⟩, fun j hj => hk j (List.mem_cons_of_mem _ hj)⟩
    have tk : ∀ {ρ : Rho} {g : Dn} {j : Int}, dVar 0 ρ = .ok (tt T) → g ρ = .ok (.int j) → 0 ≤ j → j < (T.length : Int) → dTwo oIx (dVar 0) g ρ = .ok (tu (ixr T j)) := fun h hg j0 j1 => (two_of h hg).trans (ix_tt36 T j0 j1)
    have pk := pa (ixr T k) (ixr_mem k0 k1)
    have c1 : dOr (dNot (dAsB (dArg m_law_is_set (dCons (dTwo oIx (dVar 0) (dVar 3)) (dCons (dTwo oIx (dVar 1) (dC (.int 0))) dNil))))) (dAsB (dTwo oEq (dArg bLen (dCons (dTwo oIx (dVar 0) (dVar 3)) dNil)) (dC (.int 0)))) (r0 (some (.d (.int k))) none none none none none) = .ok false := by
      refine or_ff (not_of (b := true) (asB_of ((arg_of (m := m_law_is_set) (cons_of (tk (g := dVar 3) rfl rfl k0 k1) (cons_of (g := dNil) ((two_of (u := oIx) (f := dVar 1) (a := ofr n ls) (g := dC (.int 0)) (b := .int 0) rfl rfl).trans (of_p0 n ls)) rfl))).trans (v_is_set _ n pk (by have := asc_le6 pk h6; omega))))) ?_
      have := asB_of ((two_of (u := oEq) ((arg_of (m := bLen) (cons_of (g := dNil) (tk (ρ := r0 (some (.d (.int k))) none none none none none) (g := dVar 3) rfl rfl k0 k1) rfl)).trans (bLen_tu _)) (g := dC (.int 0)) rfl).trans (oEq_int _ _))
      rw [show (((ixr T k).length : Int) == 0) = false by
        have := nonempty (ixr T k) (ixr_mem k0 k1)
        rw [beq_eq_false_iff_ne]
        omega] at this
      exact this
    have c2 : dAnd (dAsB (dTwo oGt (dVar 3) (dC (.int 0)))) (dAsB (dTwo oLeT (dTwo oIx (dVar 0) (dVar 3)) (dTwo oIx (dVar 0) (dTwo oSub (dVar 3) (dC (.int 1)))))) (r0 (some (.d (.int k))) none none none none none) = .ok false := by
      have g0 := asB_of ((two_of (u := oGt) (f := dVar 3) (a := .int k) (g := dC (.int 0)) (b := .int 0) (ρ := r0 (some (.d (.int k))) none none none none none) rfl rfl).trans (oGt_int _ _))
      by_cases hk0 : 0 < k
      · rw [decide_eq_true hk0] at g0
        refine and_t g0 ?_
        have := asB_of ((two_of (u := oLeT) (tk (ρ := r0 (some (.d (.int k))) none none none none none) (g := dVar 3) rfl rfl k0 k1) (tk (g := dTwo oSub (dVar 3) (dC (.int 1))) (j := k - 1) rfl ((two_of (u := oSub) (f := dVar 3) (a := .int k) (g := dC (.int 1)) (b := .int 1) rfl rfl).trans (oSub_int _ _)) (by omega) (by omega))).trans (oLeT_tu _ _))
        rw [show leT (ixr T k) (ixr T (k - 1)) = false by
          have h1 : T[(k - 1).toNat]? = some (ixr T (k - 1)) := by unfold ixr; rw [List.getElem?_eq_getElem (by omega)]; rfl
          have h2 : T[k.toNat]? = some (ixr T k) := by unfold ixr; rw [List.getElem?_eq_getElem (by omega)]; rfl
          have lt : HT.lexLt (ixr T (k - 1)) (ixr T k) = true := by
            have := List.pairwise_iff_getElem.mp asdT (k - 1).toNat k.toNat (by omega) (by omega) (by omega)
            rw [List.getElem?_eq_getElem (by omega)] at h1 h2
            rw [Option.some.inj h1, Option.some.inj h2] at this
            exact this
          unfold leT
          rw [lt]; rfl] at this
        exact this
      · rw [decide_eq_false hk0] at g0
        exact and_f g0
    show b_law_are_pieces_1 (r0 (some (.d (.int k))) none none none none none) = _
    unfold b_law_are_pieces_1
    rw [seq_if_f c1]
    exact (if_f c2).trans rfl) (rangeI 0 T.length) (r0 none none none none none none) ⟨⟨none, rfl⟩, fun k hk => mem_rangeI.mp hk⟩
  have s1 : gFor (dRng1 (dCons (dArg bLen (dCons (dVar 0) dNil)) dNil)) (.nm 3) b_law_are_pieces_1 (r0 none none none none none none) = .nx (r0 a1 none none none none none) := by
    have it : dRng1 (dCons (dArg bLen (dCons (dVar 0) dNil)) dNil) (r0 none none none none none none) = .ok ((rangeI 0 T.length).map PyData.int) := by
      have a := cons_of (g := dNil) ((arg_of (m := bLen) (ρ := r0 none none none none none none) (cons_of (f := dVar 0) (a := tt T) (g := dNil) rfl rfl)).trans (bLen_tt T)) rfl
      show ((dCons _ dNil) _ >>= rngA1) = _
      rw [a, R.bind_ok, rngA1_ok (by omega) (by omega)]
    rw [ev_for, it, oR_ok, e1]
  -- each thing lies in one piece; what lies in common circuits
  have anyv : ∀ (i k : Nat) (L : List (List Int)) (enc : PyData) (ρ : Rho) (x y : Int), True := fun _ _ _ _ _ _ _ => trivial
  obtain ⟨ρ2, e2, ⟨b4, b5, b6, rfl⟩, _⟩ := forGo_inv (i := 4) (g := b_law_are_pieces_3) (enc := PyData.int) (fun xs ρ => (∃ b c d, ρ = r0 a1 b c d none none) ∧ ∀ x ∈ xs, 0 ≤ x ∧ x < n) (by
    rintro x xs ρ ⟨⟨b, c, d, rfl⟩, hx⟩
    obtain ⟨x0, x1⟩ := hx x List.mem_cons_self
    have c1 : dAsB (dTwo oNe (dArg bLen (dCons (dLc (dItems (dVar 0)) (.nm 7) (dAsB (dTwo oIn (dVar 4) (dVar 7))) (dVar 7) [7]) dNil)) (dC (.int 1))) (r0 a1 (some (.d (.int x))) c d none none) = .ok false := by
      have lc := lc_of (enc := tu) (fi := dItems (dVar 0)) (t := .nm 7) (ft := dAsB (dTwo oIn (dVar 4) (dVar 7))) (fe := dVar 7) (vs := [7]) (ρ := r0 a1 (some (.d (.int x))) c d none none) (xs := T) (st := fun p => r0 a1 (some (.d (.int x))) c d (some (.d (tu p))) none) (q := fun p => decide (x ∈ p)) (g := tu) rfl (fun p _ => ⟨rfl, asB_of ((two_of (u := oIn) (f := dVar 4) (a := .int x) (g := dVar 7) (b := tu p) rfl rfl).trans (oIn_tu x p)), fun _ => rfl⟩)
      have := asB_of ((two_of (u := oNe) ((arg_of (m := bLen) (cons_of (g := dNil) lc rfl)).trans (bLen_lt _)) (g := dC (.int 1)) rfl).trans (oNe_int _ _))
      rw [one x ⟨x0, x1⟩] at this
      exact this
    obtain ⟨ρ3, e3, ⟨c5, c6, rfl⟩, _⟩ := forGo_inv (i := 5) (g := b_law_are_pieces_2) (enc := PyData.int) (fun xs ρ => (∃ c d, ρ = r0 a1 (some (.d (.int x))) c d none none) ∧ ∀ y ∈ xs, y < x) (by
      rintro y ys ρ ⟨⟨c, d, rfl⟩, hy⟩
      have yx := hy y List.mem_cons_self
      have lc := lc_of (enc := tu) (fi := dItems (dVar 0)) (t := .nm 7) (ft := dYes) (fe := dAndV (dTwo oIn (dVar 4) (dVar 7)) (dTwo oIn (dVar 5) (dVar 7))) (vs := [7]) (ρ := r0 a1 (some (.d (.int x))) (some (.d (.int y))) d none none) (xs := T) (st := fun p => r0 a1 (some (.d (.int x))) (some (.d (.int y))) d (some (.d (tu p))) none) (q := fun _ => true) (g := fun p => PyData.bool (decide (x ∈ p) && decide (y ∈ p))) rfl (fun p _ => ⟨rfl, rfl, fun _ => and_V ((two_of (u := oIn) (f := dVar 4) (a := .int x) (g := dVar 7) (b := tu p) rfl rfl).trans (oIn_tu x p)) ((two_of (u := oIn) (f := dVar 5) (a := .int y) (g := dVar 7) (b := tu p) rfl rfl).trans (oIn_tu y p))⟩)
      rw [List.filter_eq_self.mpr fun _ _ => rfl] at lc
      have v1 := (arg_of (m := bAny) (cons_of (g := dNil) lc rfl)).trans (bAny_map _ T)
      obtain ⟨al, hal⟩ : ∃ al, al = (T.any fun p => decide (x ∈ p) && decide (y ∈ p)) := ⟨_, rfl⟩
      rw [← hal] at v1
      have lc2 := lc_of (enc := tu) (fi := dItems (dVar 2)) (t := .nm 8) (ft := dYes) (fe := dAndV (dTwo oIn (dVar 4) (dVar 8)) (dTwo oIn (dVar 5) (dVar 8))) (vs := [8]) (ρ := r0 a1 (some (.d (.int x))) (some (.d (.int y))) (some (.d (.bool al))) none none) (xs := cs) (st := fun p => r0 a1 (some (.d (.int x))) (some (.d (.int y))) (some (.d (.bool al))) none (some (.d (tu p)))) (q := fun _ => true) (g := fun p => PyData.bool (decide (x ∈ p) && decide (y ∈ p))) rfl (fun p _ => ⟨rfl, rfl, fun _ => and_V ((two_of (u := oIn) (f := dVar 4) (a := .int x) (g := dVar 8) (b := tu p) rfl rfl).trans (oIn_tu x p)) ((two_of (u := oIn) (f := dVar 5) (a := .int y) (g := dVar 8) (b := tu p) rfl rfl).trans (oIn_tu y p))⟩)
      rw [List.filter_eq_self.mpr fun _ _ => rfl] at lc2
      have v2 := (arg_of (m := bAny) (cons_of (g := dNil) lc2 rfl)).trans (bAny_map _ cs)
      rw [← alike x y ⟨x0, x1⟩ (by omega), ← hal] at v2
      have c3 := asB_of ((two_of (u := oNe) (f := dVar 6) (a := .bool al) rfl v2).trans (oNe_bool _ _))
      rw [show (!(al == al)) = false by cases al <;> rfl] at c3
      refine ⟨r0 a1 (some (.d (.int x))) (some (.d (.int y))) (some (.d (.bool al))) none none, ?_, ⟨_, _, rfl⟩, fun j hj => hy j (List.mem_cons_of_mem _ hj)⟩
      show b_law_are_pieces_2 (r0 a1 (some (.d (.int x))) (some (.d (.int y))) d none none) = _
      unfold b_law_are_pieces_2
      rw [seq_of (set_of v1 (set_nm _ _ _))]
      exact (if_f c3).trans rfl) (rangeI 0 x) (r0 a1 (some (.d (.int x))) c d none none) ⟨⟨c, d, rfl⟩, fun y hy => (mem_rangeI.mp hy).2⟩
    refine ⟨r0 a1 (some (.d (.int x))) c5 c6 none none, ?_, ⟨_, _, _, rfl⟩, fun j hj => hx j (List.mem_cons_of_mem _ hj)⟩
    show b_law_are_pieces_3 (r0 a1 (some (.d (.int x))) c d none none) = _
    unfold b_law_are_pieces_3
    rw [seq_if_f c1, ev_for]
    have it : dRng1 (dCons (dVar 4) dNil) (r0 a1 (some (.d (.int x))) c d none none) = .ok ((rangeI 0 x).map PyData.int) := by
      have a := cons_of (f := dVar 4) (a := .int x) (g := dNil) (ρ := r0 a1 (some (.d (.int x))) c d none none) rfl rfl
      show ((dCons _ dNil) _ >>= rngA1) = _
      rw [a, R.bind_ok, rngA1_ok (by omega) (by omega)]
    rw [it, oR_ok, e3]) (rangeI 0 n) (r0 a1 none none none none none) ⟨⟨none, none, none, rfl⟩, fun x hx => mem_rangeI.mp hx⟩
  have s2 : gFor (dRng1 (dCons (dTwo oIx (dVar 1) (dC (.int 0))) dNil)) (.nm 4) b_law_are_pieces_3 (r0 a1 none none none none none) = .nx (r0 a1 b4 b5 b6 none none) := by
    have it : dRng1 (dCons (dTwo oIx (dVar 1) (dC (.int 0))) dNil) (r0 a1 none none none none none) = .ok ((rangeI 0 n).map PyData.int) := by
      have a := cons_of (g := dNil) ((two_of (u := oIx) (f := dVar 1) (a := ofr n ls) (g := dC (.int 0)) (b := .int 0) (ρ := r0 a1 none none none none none) rfl rfl).trans (of_p0 n ls)) rfl
      show ((dCons _ dNil) _ >>= rngA1) = _
      rw [a, R.bind_ok, rngA1_ok (by omega) (by omega)]
    rw [ev_for, it, oR_ok, e2]
  show endR (g_law_are_pieces (r0 none none none none none none)) = _
  unfold g_law_are_pieces
  rw [seq_if_f q0, seq_of s1, seq_of s2]
  rfl
end
end LW
set_option Elab.async false
set_option linter.all false
set_option maxRecDepth 100000
set_option maxHeartbeats 4000000
namespace LW
open PySem PySem.Spec PyProof.Rows L2 PD
def prt36 (p l : List Int) : List Int := (rangeI 0 p.length).filter fun k => decide (ixv p k ∈ l)
theorem mem_prt {p l : List Int} {k : Int} : k ∈ prt36 p l ↔ (0 ≤ k ∧ k < (p.length : Int)) ∧ ixv p k ∈ l := by
  unfold prt36
  rw [List.mem_filter, mem_rangeI, decide_eq_true_eq]
theorem prt_asc (p l : List Int) : Asc p.length (prt36 p l) := asc_rest _ _
theorem ixv_idx {p : List Int} {x : Int} (h : x ∈ p) : ixv p (p.idxOf x : Int) = x ∧ p.idxOf x < p.length := by
  have hl := List.idxOf_lt_length_iff.mpr h
  refine ⟨?_, hl⟩
  unfold ixv
  rw [Int.toNat_natCast, List.getElem?_eq_getElem hl]
  exact List.getElem_idxOf hl
theorem ixv_mono {n : Int} {p : List Int} (ha : Asc n p) {i j : Int} (i0 : 0 ≤ i) (ij : i < j) (j1 : j < (p.length : Int)) : ixv p i < ixv p j := by
  have := List.pairwise_iff_getElem.mp ha.1 i.toNat j.toNat (by omega) (by omega) (by omega)
  unfold ixv
  rw [List.getElem?_eq_getElem (by omega), List.getElem?_eq_getElem (by omega)]
  exact this
theorem prt_eq {n : Int} {p l : List Int} (hp : Asc n p) (hl : Asc n l) : (l.filter fun x => decide (x ∈ p)).map (fun x => (p.idxOf x : Int)) = prt36 p l := by
  refine asc_uniq ?_ (prt_asc p l).1 fun z => ?_
  · rw [List.pairwise_map]
    refine (filter_asc hl _).1.imp_of_mem fun {a b} ha hb lt => ?_
    have a1 := of_decide_eq_true (List.mem_filter.mp ha).2
    have b1 := of_decide_eq_true (List.mem_filter.mp hb).2
    obtain ⟨ea, la⟩ := ixv_idx a1
    obtain ⟨eb, lb⟩ := ixv_idx b1
    refine Classical.byContradiction fun nl => ?_
    by_cases e : (p.idxOf a : Int) = (p.idxOf b : Int)
    · rw [e] at ea; omega
    · have := ixv_mono hp (i := (p.idxOf b : Int)) (j := (p.idxOf a : Int)) (by omega) (by omega) (by omega)
      omega
  · rw [List.mem_map, mem_prt]
    constructor
    · rintro ⟨x, hx, rfl⟩
      obtain ⟨h1, h2⟩ := List.mem_filter.mp hx
      obtain ⟨e, lt⟩ := ixv_idx (of_decide_eq_true h2)
      exact ⟨⟨by omega, by omega⟩, by rw [e]; exact h1⟩
    · rintro ⟨⟨z0, z1⟩, h⟩
      have hm : ixv p z ∈ p := ixv_mem z0 z1
      refine ⟨ixv p z, List.mem_filter.mpr ⟨h, decide_eq_true hm⟩, ?_⟩
      obtain ⟨e, lt⟩ := ixv_idx hm
      refine Classical.byContradiction fun ne => ?_
      rcases Int.lt_or_gt_of_ne ne with q | q
      · have := ixv_mono hp (i := (p.idxOf (ixv p z) : Int)) (j := z) (by omega) q z1; omega
      · have := ixv_mono hp (i := z) (j := (p.idxOf (ixv p z) : Int)) z0 q (by omega); omega
theorem v_law_part (p l : List Int) (h : p.length ≤ 1000) : m_law_part [tu l, tu p] = .ok (tu (prt36 p l)) := by
  let r0 : Option Sl → Rho := fun a => [some (.d (tu l)), some (.d (tu p)), a]
  have lc := lc_of (enc := PyData.int) (fi := dRng1 (dCons (dArg bLen (dCons (dVar 1) dNil)) dNil)) (t := .nm 2) (ft := dAsB (dTwo oIn (dTwo oIx (dVar 1) (dVar 2)) (dVar 0))) (fe := dVar 2) (vs := [2]) (ρ := r0 none) (xs := rangeI 0 p.length) (st := fun k => r0 (some (.d (.int k)))) (q := fun k => decide (ixv p k ∈ l)) (g := PyData.int) (by
    have a := cons_of (g := dNil) ((arg_of (m := bLen) (ρ := r0 none) (cons_of (f := dVar 1) (a := tu p) (g := dNil) rfl rfl)).trans (bLen_tu p)) rfl
    show ((dCons _ dNil) _ >>= rngA1) = _
    rw [a, R.bind_ok, rngA1_ok (by omega) (by omega)]) (fun k hk => ⟨rfl, by
      obtain ⟨k0, k1⟩ := mem_rangeI.mp hk
      exact asB_of ((two_of (u := oIn) ((two_of (u := oIx) (f := dVar 1) (a := tu p) (g := dVar 2) (b := .int k) rfl rfl).trans (ix_tu k0 k1)) (g := dVar 0) (b := tu l) rfl).trans (oIn_tu _ l)), fun _ => rfl⟩)
  show endR (g_law_part (r0 none)) = _
  unfold g_law_part
  rw [ret_of ((arg_of (m := bTuple) (cons_of (g := dNil) lc rfl)).trans rfl)]
  rfl
def num36 (k : Int) (p : List Int) : List (Int × PyData) := (idx k p).map fun q => (q.2, PyData.int q.1)
theorem getK_num {x : Int} : ∀ (p : List Int) (k : Int), getK (num36 k p) x = if x ∈ p then some (.int (k + (p.idxOf x : Int))) else none
  | [], k => by simp [num36, idx, getK]
  | y :: p, k => by
    have ih := getK_num (x := x) p (k + 1)
    have h0 : getK (num36 k (y :: p)) x = if y = x then some (.int k) else getK (num36 (k + 1) p) x := by
      show Option.map _ (List.find? _ ((y, PyData.int k) :: num36 (k + 1) p)) = _
      rw [List.find?_cons]
      by_cases e : y = x
      · simp [e]
      · simp [e, getK]
    rw [h0]
    by_cases e : y = x
    · subst e
      rw [if_pos rfl, if_pos List.mem_cons_self]
      simp
    · rw [if_neg e, ih]
      have e2 : (y :: p).idxOf x = p.idxOf x + 1 := by
        rw [List.idxOf_cons]
        have : (y == x) = false := by simpa using e
        rw [this]
        rfl
      rw [e2]
      by_cases m : x ∈ p
      · rw [if_pos m, if_pos (List.mem_cons_of_mem _ m)]
        congr 2
        omega
      · rw [if_neg m, if_neg (by
          rw [List.mem_cons]
          exact fun q => q.elim (fun z => e z.symm) m)]
theorem dk36 {ρ0 : List (Option Sl)} {a b c d : Option Sl} : ∀ (p : List Int) (k : Int) (acc : List (Int × PyData)) (x4 x5 x6 : Option Sl), (acc.map (·.1) ++ p).Nodup → dkGo (.tp [(.nm 4), (.nm 5)]) dYes (dVar 5) (dVar 4) [a, b, c, d, x4, x5, x6] ((idx k p).map (encI PyData.int)) acc = .ok (acc ++ num36 k p)
  | [], k, acc, x4, x5, x6, _ => by
    show PD.R.ok acc = _
    rw [show num36 k [] = [] from rfl, List.append_nil]
  | y :: p, k, acc, x4, x5, x6, nd => by
    have ny : y ∉ acc.map (·.1) := fun h => by
      rw [List.nodup_append] at nd
      exact nd.2.2 y h y List.mem_cons_self rfl
    have e : putKD acc y (.int k) = acc ++ [(y, .int k)] := by
      unfold putKD
      rw [if_neg]
      intro h
      obtain ⟨q, hq, e⟩ := List.any_eq_true.mp h
      exact ny (List.mem_map.mpr ⟨q, hq, of_decide_eq_true e⟩)
    have ih := dk36 (ρ0 := ρ0) (a := a) (b := b) (c := c) (d := d) p (k + 1) (acc ++ [(y, .int k)]) x4 x5 x6 (by
      rw [List.map_append, List.append_assoc]
      exact nd)
    show dkGo (.tp [(.nm 4), (.nm 5)]) dYes (dVar 5) (dVar 4) [a, b, c, d, x4, x5, x6] ((idx (k + 1) p).map (encI PyData.int)) (putKD acc y (.int k)) = _
    rw [e, ih, List.append_assoc]
    rfl
def due36 (ls : List (List Int)) (p : List Int) : List (List Int) := (ls.map (prt36 p)).foldl insK []
theorem v_piece_offer {n : Int} {ls : List (List Int)} {p : List Int} (h6 : n ≤ 6) (hp : Asc n p) (ha : ∀ l ∈ ls, Asc n l) (few : (due36 ls p).length < 63) : m_piece_offer [ofr n ls, tu p] = .ok (ofr p.length (sortT (due36 ls p))) := by
  have pl := asc_le6 hp h6
  let r0 : Option Sl → Option Sl → Rho := fun a b => [some (.d (ofr n ls)), some (.d (tu p)), a, none, none, b, none]
  have s1 : gSet (dDcK (dEnum (dCons (dVar 1) dNil)) (.tp [(.nm 4), (.nm 5)]) dYes (dVar 5) (dVar 4) [4, 5]) (.nm 2) (r0 none none) = .nx (r0 (some (.d (dkD (num36 0 p)))) none) := by
    refine set_of ?_ (set_nm _ _ _)
    have it : dEnum (dCons (dVar 1) dNil) (r0 none none) = .ok ((idx 0 p).map (encI PyData.int)) := by
      show ((dCons (dVar 1) dNil) (r0 none none) >>= enumA) = _
      rw [cons_of (f := dVar 1) (a := tu p) (g := dNil) (ρ := r0 none none) rfl rfl, R.bind_ok, enumA_1]
      show PD.R.ok (enumF 0 (p.map PyData.int)) = _
      rw [enumF_map]
    have dk := dk36 (ρ0 := []) (a := some (.d (ofr n ls))) (b := some (.d (tu p))) (c := none) (d := none) p 0 [] none none none (by show p.Nodup; exact hp.1.imp fun {x y} h e => by omega)
    unfold dDcK
    rw [it]
    show nx (dkGo _ _ _ _ (r0 none none) _ []) _ = _
    rw [dk]
    rfl
  let ρ1 : Rho := r0 (some (.d (dkD (num36 0 p)))) none
  have part : ∀ l, Asc n l → dArg bTuple (dCons (dLc (dItems (dVar 6)) (.nm 5) (dAsB (dTwo oInK (dVar 5) (dVar 2))) (dTwo oDix (dVar 2) (dVar 5)) [5]) dNil) (ρ1.set 6 (some (.d (tu l)))) = .ok (tu (prt36 p l)) := fun l hl => by
    let r1 : Option Sl → Rho := fun a => [some (.d (ofr n ls)), some (.d (tu p)), some (.d (dkD (num36 0 p))), none, none, a, some (.d (tu l))]
    have gk : ∀ x, getK (num36 0 p) x = if x ∈ p then some (.int (p.idxOf x : Int)) else none := fun x => by rw [getK_num, Int.zero_add]
    have lc := lc_of (enc := PyData.int) (fi := dItems (dVar 6)) (t := .nm 5) (ft := dAsB (dTwo oInK (dVar 5) (dVar 2))) (fe := dTwo oDix (dVar 2) (dVar 5)) (vs := [5]) (ρ := r1 none) (xs := l) (st := fun x => r1 (some (.d (.int x)))) (q := fun x => decide (x ∈ p)) (g := fun x => PyData.int (p.idxOf x : Int)) rfl (fun x hx => ⟨rfl, by
      refine asB_of ((two_of (u := oInK) (f := dVar 5) (a := .int x) (g := dVar 2) (b := dkD (num36 0 p)) rfl rfl).trans ?_)
      unfold oInK
      rw [asDk_dkD]
      dsimp only
      rw [gk]
      by_cases m : x ∈ p <;> simp [m], fun hq => by
      refine (two_of (u := oDix) (f := dVar 2) (a := dkD (num36 0 p)) (g := dVar 5) (b := .int x) rfl rfl).trans ?_
      unfold oDix
      rw [asDk_dkD]
      dsimp only
      rw [gk, if_pos (of_decide_eq_true hq)]⟩)
    refine (arg_of (m := bTuple) (cons_of (g := dNil) lc rfl)).trans ?_
    rw [← prt_eq hp hl]
    show PD.R.ok (PyData.tuple ((l.filter fun x => decide (x ∈ p)).map fun x => PyData.int (p.idxOf x : Int))) = PD.R.ok (PyData.tuple (((l.filter fun x => decide (x ∈ p)).map fun x => (p.idxOf x : Int)).map PyData.int))
    rw [List.map_map]
    rfl
  have dc := dcGo_all (enc := tu) (kf := prt36 p) (i := 6) (fk := dArg bTuple (dCons (dLc (dItems (dVar 6)) (.nm 5) (dAsB (dTwo oInK (dVar 5) (dVar 2))) (dTwo oDix (dVar 2) (dVar 5)) [5]) dNil)) (ρ := wipeR ρ1 [6]) (xs := ls) (acc := []) fun l hl => part l (ha l hl)
  have sc := sortSc_ok36 (fi := dItems (dTwo oIx (dVar 0) (dC (.int 1)))) (t := .nm 6) (ft := dYes) (fe := dArg bTuple (dCons (dLc (dItems (dVar 6)) (.nm 5) (dAsB (dTwo oInK (dVar 5) (dVar 2))) (dTwo oDix (dVar 2) (dVar 5)) [5]) dNil)) (vs := [6]) (ρ := ρ1) (ds := ls.map tu) (by
    rw [ev_items, (two_of (u := oIx) (f := dVar 0) (a := ofr n ls) (g := dC (.int 1)) (b := .int 1) (ρ := ρ1) rfl rfl).trans (of_p1 n ls), R.bind_ok]
    rfl) dc few fun k hk => by
      rcases mem_foldK.mp hk with h | h
      · cases h
      · obtain ⟨l, _, rfl⟩ := List.mem_map.mp h
        have := (prt_asc p l).len
        omega
  have rt : gRetS2 3 (dArg bLen (dCons (dVar 1) dNil)) (dSortSc (dItems (dTwo oIx (dVar 0) (dC (.int 1)))) (.nm 6) dYes (dArg bTuple (dCons (dLc (dItems (dVar 6)) (.nm 5) (dAsB (dTwo oInK (dVar 5) (dVar 2))) (dTwo oDix (dVar 2) (dVar 5)) [5]) dNil)) [6]) ρ1 = .rt (ofr p.length (sortT (due36 ls p))) := by
    unfold gRetS2
    rw [sc, oR_ok, (arg_of (m := bLen) (ρ := ρ1.set 3 none) (cons_of (f := dVar 1) (a := tu p) (g := dNil) rfl rfl)).trans (bLen_tu p), oR_ok]
    rfl
  show endR (g_piece_offer (r0 none none)) = _
  unfold g_piece_offer
  rw [seq_of s1, rt]
  rfl
end LW
set_option Elab.async false
set_option linter.all false
set_option maxRecDepth 100000
set_option maxHeartbeats 4000000
namespace LW
open PySem PySem.Spec PyProof.Rows L2 PD
theorem dist_same {α β γ : Type} [DecidableEq β] [DecidableEq γ] {a : α → β} {b : α → γ} : ∀ {l : List α}, (∀ x ∈ l, ∀ y ∈ l, a x = a y ↔ b x = b y) → (dist36 (l.map a)).length = (dist36 (l.map b)).length
  | [], _ => rfl
  | x :: l, h => by
    have ih := dist_same (a := a) (b := b) (l := l) fun y hy z hz => h y (List.mem_cons_of_mem _ hy) z (List.mem_cons_of_mem _ hz)
    have e : a x ∈ dist36 (l.map a) ↔ b x ∈ dist36 (l.map b) := by
      rw [mem_dist, mem_dist, List.mem_map, List.mem_map]
      exact ⟨fun ⟨y, hy, q⟩ => ⟨y, hy, (h y (List.mem_cons_of_mem _ hy) x List.mem_cons_self).mp q⟩, fun ⟨y, hy, q⟩ => ⟨y, hy, (h y (List.mem_cons_of_mem _ hy) x List.mem_cons_self).mpr q⟩⟩
    rw [List.map_cons, List.map_cons]
    unfold dist36
    by_cases m : a x ∈ dist36 (l.map a)
    · rw [if_pos m, if_pos (e.mp m)]; exact ih
    · rw [if_neg m, if_neg fun q => m (e.mpr q), List.length_cons, List.length_cons, ih]
theorem dist_self {β : Type} [DecidableEq β] : ∀ {l : List β}, l.Nodup → dist36 l = l
  | [], _ => rfl
  | x :: l, h => by
    obtain ⟨h1, h2⟩ := List.nodup_cons.mp h
    unfold dist36
    rw [dist_self h2, if_neg h1]
theorem dist_const {α β : Type} [DecidableEq β] (b : β) : ∀ {l : List α}, l ≠ [] → dist36 (l.map fun _ => b) = [b]
  | [x], _ => rfl
  | x :: y :: l, _ => by
    have ih := dist_const b (l := y :: l) (by simp)
    rw [List.map_cons]
    unfold dist36
    rw [ih, if_pos List.mem_cons_self]
theorem due_len (ls : List (List Int)) (p : List Int) : (due36 ls p).length = (dist36 (ls.map (prt36 p))).length := by
  have n1 : (due36 ls p).Nodup := nodup_insK36 .nil
  refine ((List.perm_ext_iff_of_nodup n1 (dist_nodup _)).mpr fun z => ?_).length_eq
  unfold due36
  rw [mem_foldK, mem_dist]
  exact ⟨fun h => h.elim (fun q => by cases q) id, .inr⟩
/-- what of a lot lies in some of the pieces -/
def ch36 (dn : List (List Int)) (l : List Int) : List Int := l.filter fun z => dn.any fun p => decide (z ∈ p)
theorem mem_ch {dn : List (List Int)} {l : List Int} {z : Int} : z ∈ ch36 dn l ↔ z ∈ l ∧ ∃ p ∈ dn, z ∈ p := by
  unfold ch36
  rw [List.mem_filter, List.any_eq_true]
  exact ⟨fun ⟨a, p, b, c⟩ => ⟨a, p, b, of_decide_eq_true c⟩, fun ⟨a, p, b, c⟩ => ⟨a, p, b, decide_eq_true c⟩⟩
theorem ch_eq {n : Int} {dn : List (List Int)} {X Y : List Int} (hX : Asc n X) (hY : Asc n Y) : ch36 dn X = ch36 dn Y ↔ ∀ p ∈ dn, ∀ z ∈ p, z ∈ X ↔ z ∈ Y := by
  constructor
  · intro e p hp z hz
    have a : z ∈ ch36 dn X ↔ z ∈ ch36 dn Y := by rw [e]
    rw [mem_ch, mem_ch] at a
    exact ⟨fun h => (a.mp ⟨h, p, hp, hz⟩).1, fun h => (a.mpr ⟨h, p, hp, hz⟩).1⟩
  · intro h
    refine asc_uniq (filter_asc hX _).1 (filter_asc hY _).1 fun z => ?_
    show z ∈ ch36 dn X ↔ z ∈ ch36 dn Y
    rw [mem_ch, mem_ch]
    exact ⟨fun ⟨a, p, b, c⟩ => ⟨(h p b z c).mp a, p, b, c⟩, fun ⟨a, p, b, c⟩ => ⟨(h p b z c).mpr a, p, b, c⟩⟩
theorem prt_same {p X Y : List Int} : prt36 p X = prt36 p Y ↔ ∀ z ∈ p, z ∈ X ↔ z ∈ Y := by
  constructor
  · intro e z hz
    obtain ⟨ei, li⟩ := ixv_idx hz
    have a : (p.idxOf z : Int) ∈ prt36 p X ↔ (p.idxOf z : Int) ∈ prt36 p Y := by rw [e]
    rw [mem_prt, mem_prt, ei] at a
    exact ⟨fun h => (a.mp ⟨⟨by omega, by omega⟩, h⟩).2, fun h => (a.mpr ⟨⟨by omega, by omega⟩, h⟩).2⟩
  · intro h
    unfold prt36
    refine List.filter_congr fun k hk => ?_
    obtain ⟨k0, k1⟩ := mem_rangeI.mp hk
    have := h _ (ixv_mem k0 k1)
    by_cases m : ixv p k ∈ X
    · rw [decide_eq_true m, decide_eq_true (this.mp m)]
    · rw [decide_eq_false m, decide_eq_false fun q => m (this.mpr q)]
section
variable {n : Int} {ls cs : List (List Int)} (h0 : 0 ≤ n) (h6 : n ≤ 6) (s : Smooth n ls) (asd : Asd cs) (mem : ∀ r, r ∈ cs ↔ Circ n ls r)
include s mem
theorem shut_cls (x : Int) : Shut n ls fun z => decide (z ∈ cls36 cs x) := fun c hc ⟨y, yc, hy⟩ z zc => decide_eq_true ((cls_conn mem).mpr (((cls_conn mem).mp (of_decide_eq_true hy)).trans s (.inr ⟨c, hc, yc, zc⟩)))
theorem num_step {dn rest : List (List Int)} {p : List Int} (e : dn ++ p :: rest = pcs36 n cs) : (dist36 (ls.map (ch36 (dn ++ [p])))).length = (dist36 (ls.map (ch36 dn))).length * (due36 ls p).length := by
  have hp : p ∈ pcs36 n cs := by rw [← e]; simp
  obtain ⟨x, hx, rfl⟩ := (mem_pcs mem).mp hp
  have nd := (pcs_asd (n := n) mem).nodup
  rw [← e] at nd
  have apart : ∀ q ∈ dn, ∀ z ∈ q, z ∉ cls36 cs x := fun q hq z hz hzx => by
    have hq' : q ∈ pcs36 n cs := by rw [← e]; exact List.mem_append_left _ hq
    obtain ⟨y, hy, rfl⟩ := (mem_pcs mem).mp hq'
    have c1 := (cls_conn mem).mp hz
    have c2 := (cls_conn mem).mp hzx
    have : cls36 cs y = cls36 cs x := cls_eq s mem (c1.trans s c2.symm)
    rw [List.nodup_append] at nd
    exact nd.2.2 _ hq _ List.mem_cons_self this
  have m := dist_mul ls (ch36 dn) (prt36 (cls36 cs x)) fun X hX Y hY => by
    have aX := s.good.asc X hX
    have aY := s.good.asc Y hY
    refine ⟨_, mix_lot s (shut_cls s mem x) hX hY, (ch_eq (mix_asc n _ X Y) aX).mpr fun q hq z hz => ?_, prt_same.mpr fun z hz => ?_⟩
    · rw [mem_mix, if_neg (by rw [decide_eq_true_eq]; exact apart q hq z hz)]
      exact ⟨fun h => h.2, fun h => ⟨aX.2 z h, h⟩⟩
    · rw [mem_mix, if_pos (decide_eq_true hz)]
      exact ⟨fun h => h.2, fun h => ⟨aY.2 z h, h⟩⟩
  rw [due_len, ← m]
  refine dist_same fun X hX Y hY => ?_
  have aX := s.good.asc X hX
  have aY := s.good.asc Y hY
  rw [Prod.mk.injEq, ch_eq aX aY, ch_eq aX aY, prt_same]
  constructor
  · intro h
    exact ⟨fun q hq => h q (List.mem_append_left _ hq), h _ (by simp)⟩
  · rintro ⟨a, b⟩ q hq
    rcases List.mem_append.mp hq with hq | hq
    · exact a q hq
    · rw [List.mem_singleton.mp hq]; exact b
theorem num_all : (dist36 (ls.map (ch36 (pcs36 n cs)))).length = ls.length := by
  have e : ls.map (ch36 (pcs36 n cs)) = ls := by
    conv => rhs; rw [← List.map_id ls]
    refine List.map_congr_left fun l hl => ?_
    have al := s.good.asc l hl
    refine List.filter_eq_self.mpr fun z hz => List.any_eq_true.mpr ⟨cls36 cs z, (mem_pcs mem).mpr ⟨z, al.2 z hz, rfl⟩, decide_eq_true ((cls_conn mem).mpr (.inl rfl))⟩
  rw [e, dist_self s.good.asd.nodup]
omit mem in
theorem num_none : (dist36 (ls.map (ch36 []))).length = 1 := by
  have e : ls.map (ch36 []) = ls.map fun _ => ([] : List Int) := List.map_congr_left fun l _ => List.filter_eq_nil_iff.mpr fun z _ => by simp
  rw [e, dist_const [] s.good.ne]
  rfl
end
end LW
set_option Elab.async false
set_option linter.all false
set_option maxRecDepth 100000
set_option maxHeartbeats 4000000
namespace LW
open PySem PySem.Spec PyProof.Rows L2 PD
theorem lots_few {n : Int} {ls : List (List Int)} (h0 : 0 ≤ n) (h6 : n ≤ 6) (g : Good n ls) : ls.length ≤ 64 := asc_few h0 h6 g.asd.nodup g.asc
theorem asc_pow {n : Int} (h0 : 0 ≤ n) (h6 : n ≤ 12) {cs : List (List Int)} (nd : cs.Nodup) (h : ∀ c ∈ cs, Asc n c) : cs.length ≤ 2 ^ n.toNat := by
  obtain ⟨rows, _, mem, len, _⟩ := v_parts2 n h0 h6
  have a := nodup_len nd (ys := rows) fun c hc => (mem c).mpr (h c hc)
  rwa [len] at a
theorem lots62 {n : Int} {ls : List (List Int)} (h0 : 0 ≤ n) (h6 : n ≤ 6) (s : Smooth n ls) : ls.length ≤ 62 := by
  by_cases h5 : n ≤ 5
  · have a := asc_pow h0 (by omega) s.good.asd.nodup s.good.asc
    have b : 2 ^ n.toNat ≤ 2 ^ 5 := Nat.pow_le_pow_right (by decide) (by omega)
    have : (2 : Nat) ^ 5 = 32 := by decide
    omega
  · have e : n = 6 := by omega
    subst e
    obtain ⟨l, hl⟩ : ∃ l, l ∈ ls := by
      cases hls : ls with
      | nil => exact absurd hls s.good.ne
      | cons x xs => exact ⟨x, List.mem_cons_self⟩
    have key : ∀ a b : List Int, Asc 6 a → Asc 6 b → a ≠ b → a.length ≠ l.length → b.length ≠ l.length → ls.length ≤ 62 := fun a b ha hb ne na nb => by
      have na' : a ∉ ls := fun q => na (s.eqs a q l hl)
      have nb' : b ∉ ls := fun q => nb (s.eqs b q l hl)
      have x := asc_pow (n := 6) (cs := a :: b :: ls) (by decide) (by decide) (by
        rw [List.nodup_cons, List.nodup_cons]
        exact ⟨by rw [List.mem_cons]; exact fun q => q.elim ne na', nb', s.good.asd.nodup⟩) fun c hc => by
        rw [List.mem_cons, List.mem_cons] at hc
        rcases hc with rfl | rfl | hc
        · exact ha
        · exact hb
        · exact s.good.asc c hc
      have : (2 : Nat) ^ (6 : Int).toNat = 64 := by decide
      rw [this, List.length_cons, List.length_cons] at x
      omega
    have A0 : Asc 6 [] := ⟨by simp, by simp⟩
    have A1 : Asc 6 [0] := ⟨by simp, by simp⟩
    have A2 : Asc 6 [0, 1] := ⟨by simp, by simp⟩
    by_cases e0 : l.length = 0
    · exact key [0] [0, 1] A1 A2 (by simp) (by simp; omega) (by simp; omega)
    · by_cases e1 : l.length = 1
      · exact key [] [0, 1] A0 A2 (by simp) (by simp; omega) (by simp; omega)
      · exact key [] [0] A0 A1 (by simp) (by simp; omega) (by simp; omega)
theorem due_few {n : Int} {ls : List (List Int)} (h0 : 0 ≤ n) (h6 : n ≤ 6) (s : Smooth n ls) (p : List Int) : (due36 ls p).length < 63 := by
  have a := lots62 h0 h6 s
  have b := nodup_len (dist_nodup (ls.map (prt36 p))) (ys := ls.map (prt36 p)) fun z hz => mem_dist.mp hz
  rw [List.length_map] at b
  rw [due_len]
  omega
theorem v_tells36 {n : Int} {ls : List (List Int)} (h0 : 0 ≤ n) (h6 : n ≤ 6) (s : Smooth n ls) : m_law_tells_k36 [ofr n ls] = .ok (.bool true) := by
  obtain ⟨cs, asd, mem, ep⟩ := v_pieces h0 h6 s.good
  have lf := lots_few h0 h6 s.good
  have few : ∀ p, Asc n p → (due36 ls p).length < 63 := fun p _ => due_few h0 h6 s p
  have pa : ∀ p ∈ pcs36 n cs, Asc n p := fun p hp => by
    obtain ⟨x, hx, rfl⟩ := (mem_pcs mem).mp hp
    exact cls_asc (fun c hc => ((mem c).mp hc).1) hx
  have step := fun {dn rest : List (List Int)} {p : List Int} (e : dn ++ p :: rest = pcs36 n cs) => num_step s mem e
  have all := num_all s mem
  have arep := v_are_pieces h0 h6 s mem
  obtain ⟨T, hT⟩ : ∃ T, T = pcs36 n cs := ⟨_, rfl⟩
  rw [← hT] at ep arep all pa
  let r0 : Option Sl → Option Sl → Option Sl → Option Sl → Option Sl → Rho := fun a b c d e => [some (.d (ofr n ls)), a, b, c, d, e]
  have s1 : gSet (dArg m_pieces (dCons (dVar 0) dNil)) (.nm 1) (r0 none none none none none) = .nx (r0 (some (.d (tt T))) none none none none) := set_of ((arg_of (m := m_pieces) (cons_of (f := dVar 0) (g := dNil) rfl rfl)).trans ep) (set_nm _ _ _)
  let TT : Option Sl := some (.d (tt T))
  have c1 : dNot (dAsB (dArg m_law_are_pieces (dCons (dVar 1) (dCons (dVar 0) (dCons (dArg m_law_circuits (dCons (dVar 0) dNil)) dNil))))) (r0 TT none none none none) = .ok false := not_of (b := true) (asB_of ((arg_of (m := m_law_are_pieces) (cons_of (f := dVar 1) (a := tt T) rfl (cons_of (f := dVar 0) (a := ofr n ls) rfl (cons_of (g := dNil) ((arg_of (m := m_law_circuits) (cons_of (f := dVar 0) (a := ofr n ls) (g := dNil) rfl rfl)).trans (v_law_circuits n ls cs h0 (by omega) asd mem)) rfl)))).trans arep))
  have s2 : gSet (dC (.int 1)) (.nm 2) (r0 TT none none none none) = .nx (r0 TT (some (.d (.int 1))) none none none) := rfl
  -- one piece
  have due : ∀ (p : List Int) (c : Int) (x4 x5 : Option Sl), Asc n p → ∃ y5, forGo (.nm 5) b_law_tells_k36_1 (ls.map tu) (r0 TT (some (.d (.int c))) (some (.d (tu p))) (some (.own [])) x5) = .nx (r0 TT (some (.d (.int c))) (some (.d (tu p))) (some (.own ((due36 ls p).map tu))) y5) := fun p c x4 x5 hp => by
    have pl := asc_le6 hp h6
    obtain ⟨ρ', e, done, o5, rfl, hd⟩ := forGo_inv (i := 5) (g := b_law_tells_k36_1) (enc := tu) (fun xs ρ => ∃ (done : List (List Int)) (o5 : Option Sl), ρ = r0 TT (some (.d (.int c))) (some (.d (tu p))) (some (.own (((done.map (prt36 p)).foldl insK []).map tu))) o5 ∧ done ++ xs = ls) (by
      rintro l xs ρ ⟨done, o5, rfl, hd⟩
      obtain ⟨A, hA⟩ : ∃ A, A = (done.map (prt36 p)).foldl insK [] := ⟨_, rfl⟩
      have hA2 : ((done ++ [l]).map (prt36 p)).foldl insK [] = insK A (prt36 p l) := by
        rw [List.map_append, List.foldl_append, ← hA]
        rfl
      have lA : A.length ≤ 64 := by
        have nd : A.Nodup := by rw [hA]; exact nodup_insK36 .nil
        have := nodup_len nd (ys := ls.map (prt36 p)) fun z hz => by
          rw [hA] at hz
          rcases mem_foldK.mp hz with h | h
          · cases h
          · obtain ⟨q, hq, rfl⟩ := List.mem_map.mp h
            exact List.mem_map_of_mem (by rw [← hd]; exact List.mem_append_left _ hq)
        rw [List.length_map] at this
        omega
      let ρ1 : Rho := r0 TT (some (.d (.int c))) (some (.d (tu p))) (some (.own (A.map tu))) (some (.d (tu l)))
      have part : ∀ {ρ : Rho}, dVar 5 ρ = .ok (tu l) → dVar 3 ρ = .ok (tu p) → dArg m_law_part (dCons (dVar 5) (dCons (dVar 3) dNil)) ρ = .ok (tu (prt36 p l)) := fun h5 h3 => (arg_of (m := m_law_part) (cons_of h5 (cons_of (g := dNil) h3 rfl))).trans (v_law_part p l (by omega))
      have c : dThawB (dAsB (dTwo oNotIn (dArg m_law_part (dCons (dVar 5) (dCons (dVar 3) dNil))) (dVar 4))) ρ1 = .ok (!decide (prt36 p l ∈ A)) := by
        have := asB_of ((two_of (u := oNotIn) (f := dArg m_law_part (dCons (dVar 5) (dCons (dVar 3) dNil))) (g := dVar 4) (b := lt A) (ρ := thaw ρ1) (part rfl rfl) rfl).trans (oNotIn_lt _ A))
        show nx (dAsB _ (thaw ρ1)) _ = _
        rw [this]
        rfl
      refine ⟨r0 TT (some (.d (.int _))) (some (.d (tu p))) (some (.own ((insK A (prt36 p l)).map tu))) (some (.d (tu l))), ?_, done ++ [l], _, by rw [hA2], by rw [List.append_assoc]; exact hd⟩
      rw [← hA]
      show b_law_tells_k36_1 ρ1 = _
      unfold b_law_tells_k36_1 insK
      by_cases m : prt36 p l ∈ A
      · rw [decide_eq_true m] at c
        rw [if_f c, if_pos m]
        rfl
      · rw [decide_eq_false m] at c
        rw [if_t c, if_neg m]
        show oR (dArg _ _ ρ1) _ _ = _
        rw [part rfl rfl, oR_ok, if_pos (by rw [List.length_map, sizeLine_eq]; omega), List.map_append]
        rfl) ls (r0 TT (some (.d (.int c))) (some (.d (tu p))) (some (.own [])) x5) ⟨[], x5, rfl, rfl⟩
    rw [List.append_nil] at hd
    subst hd
    exact ⟨o5, e⟩
  have bnd : ∀ dn : List (List Int), (dist36 (ls.map (ch36 dn))).length ≤ 64 := fun dn => by
    have := nodup_len (dist_nodup (ls.map (ch36 dn))) (ys := ls.map (ch36 dn)) fun z hz => mem_dist.mp hz
    rw [List.length_map] at this
    omega
  obtain ⟨ρ3, e3, dn, o3, o4, o5, rfl, hd⟩ := forGo_inv (i := 3) (g := b_law_tells_k36_2) (enc := tu) (fun xs ρ => ∃ (dn : List (List Int)) (o3 o4 o5 : Option Sl), ρ = r0 TT (some (.d (.int ((dist36 (ls.map (ch36 dn))).length : Nat)))) o3 o4 o5 ∧ dn ++ xs = T) (by
    rintro p xs ρ ⟨dn, o3, o4, o5, rfl, hd⟩
    have hp : p ∈ T := by rw [← hd]; simp
    have ap := pa p hp
    have st := step (dn := dn) (rest := xs) (p := p) (by rw [hd, hT])
    have b1 := bnd dn
    have b2 := few p ap
    obtain ⟨N, hN⟩ : ∃ N, N = (dist36 (ls.map (ch36 dn))).length := ⟨_, rfl⟩
    rw [← hN] at st b1 ⊢
    obtain ⟨y5, e5⟩ := due p (N : Int) none o5 ap
    let d4 : Option Sl := some (.d (lt (due36 ls p)))
    let ρ4 : Rho := r0 TT (some (.d (.int (N : Int)))) (some (.d (tu p))) d4 y5
    have off : dNot (dAsB (dArg m_law_is_offer (dCons (dArg m_piece_offer (dCons (dVar 0) (dCons (dVar 3) dNil))) (dCons (dArg bLen (dCons (dVar 3) dNil)) (dCons (dArg bTuple (dCons (dArg bSorted (dCons (dVar 4) dNil)) dNil)) dNil))))) ρ4 = .ok false := by
      have e1 := (arg_of (m := m_piece_offer) (ρ := ρ4) (cons_of (f := dVar 0) (a := ofr n ls) rfl (cons_of (f := dVar 3) (a := tu p) (g := dNil) rfl rfl))).trans (v_piece_offer h6 ap s.good.asc b2)
      have e2 := (arg_of (m := bLen) (ρ := ρ4) (cons_of (f := dVar 3) (a := tu p) (g := dNil) rfl rfl)).trans (bLen_tu p)
      have e3 := (arg_of (m := bTuple) (ρ := ρ4) (cons_of (g := dNil) ((arg_of (m := bSorted) (cons_of (f := dVar 4) (a := lt (due36 ls p)) (g := dNil) rfl rfl)).trans (bSorted_lt _)) rfl)).trans (show bTuple [lt (sortT (due36 ls p))] = PD.R.ok (tt (sortT (due36 ls p))) from rfl)
      exact not_of (b := true) (asB_of ((arg_of (m := m_law_is_offer) (cons_of e1 (cons_of e2 (cons_of (g := dNil) e3 rfl)))).trans (v_is_offer p.length (sortT (due36 ls p)) (fun l hl => by
        have hl' : l ∈ due36 ls p := (sortT_perm _).mem_iff.mp hl
        rcases mem_foldK.mp hl' with h | h
        · cases h
        · obtain ⟨q, _, rfl⟩ := List.mem_map.mp h
          exact prt_asc p q) (by have := asc_le6 ap h6; omega))))
    have mul : gSet (dTwo oMul (dVar 2) (dArg bLen (dCons (dVar 4) dNil))) (.nm 2) ρ4 = .nx (r0 TT (some (.d (.int (((dist36 (ls.map (ch36 (dn ++ [p])))).length : Nat) : Int)))) (some (.d (tu p))) d4 y5) := by
      refine set_of ?_ (set_nm _ _ _)
      rw [st]
      have := (two_of (u := oMul) (f := dVar 2) (a := .int (N : Int)) (ρ := ρ4) rfl ((arg_of (m := bLen) (cons_of (f := dVar 4) (a := lt (due36 ls p)) (g := dNil) rfl rfl)).trans (bLen_lt _))).trans (oMul_l (by omega) (by omega))
      rw [this, Int.natCast_mul]
    refine ⟨r0 TT (some (.d (.int (((dist36 (ls.map (ch36 (dn ++ [p])))).length : Nat) : Int)))) (some (.d (tu p))) d4 y5, ?_, dn ++ [p], _, _, _, rfl, by rw [List.append_assoc]; exact hd⟩
    show b_law_tells_k36_2 (r0 TT (some (.d (.int (N : Int)))) (some (.d (tu p))) o4 o5) = _
    have f1 : gOwn (dLst dNil) 4 (r0 TT (some (.d (.int (N : Int)))) (some (.d (tu p))) o4 o5) = .nx (r0 TT (some (.d (.int (N : Int)))) (some (.d (tu p))) (some (.own [])) o5) := rfl
    have f2 : gFor (dItems (dTwo oIx (dVar 0) (dC (.int 1)))) (.nm 5) b_law_tells_k36_1 (r0 TT (some (.d (.int (N : Int)))) (some (.d (tu p))) (some (.own [])) o5) = .nx (r0 TT (some (.d (.int (N : Int)))) (some (.d (tu p))) (some (.own ((due36 ls p).map tu))) y5) := by
      rw [ev_for, ev_items, (two_of (u := oIx) (f := dVar 0) (a := ofr n ls) (g := dC (.int 1)) (b := .int 1) (ρ := r0 TT (some (.d (.int (N : Int)))) (some (.d (tu p))) (some (.own [])) o5) rfl rfl).trans (of_p1 n ls), R.bind_ok, show items (tt ls) = .ok (ls.map tu) from rfl, oR_ok, e5]
    unfold b_law_tells_k36_2
    rw [seq_of f1, seq_of f2]
    show gSeq (gIf _ _ gSkip) _ ρ4 = _
    rw [seq_if_f off, mul]) T (r0 TT (some (.d (.int 1))) none none none) ⟨[], none, none, none, by rw [num_none s]; rfl, rfl⟩
  rw [List.append_nil] at hd
  subst hd
  have s3 : gFor (dItems (dVar 1)) (.nm 3) b_law_tells_k36_2 (r0 TT (some (.d (.int 1))) none none none) = .nx (r0 TT (some (.d (.int ((dist36 (ls.map (ch36 dn))).length : Nat)))) o3 o4 o5) := by
    rw [ev_for, show dItems (dVar 1) (r0 TT (some (.d (.int 1))) none none none) = .ok (dn.map tu) from rfl, oR_ok, e3]
  have fin : dTwo oEq (dVar 2) (dArg bLen (dCons (dTwo oIx (dVar 0) (dC (.int 1))) dNil)) (r0 TT (some (.d (.int ((dist36 (ls.map (ch36 dn))).length : Nat)))) o3 o4 o5) = .ok (.bool true) := by
    rw [all]
    have := (two_of (u := oEq) (f := dVar 2) (a := .int (ls.length : Nat)) (ρ := r0 TT (some (.d (.int (ls.length : Nat)))) o3 o4 o5) rfl ((arg_of (m := bLen) (cons_of (g := dNil) ((two_of (u := oIx) (f := dVar 0) (a := ofr n ls) (g := dC (.int 1)) (b := .int 1) rfl rfl).trans (of_p1 n ls)) rfl)).trans (bLen_tt ls))).trans (oEq_int _ _)
    rw [this]
    simp
  show endR (g_law_tells_k36 (r0 none none none none none)) = _
  unfold g_law_tells_k36
  rw [seq_of s1, seq_if_f c1, seq_of s2, seq_of s3, ret_of fin]
  rfl
end LW
set_option Elab.async false
set_option linter.all false
set_option maxRecDepth 100000
set_option maxHeartbeats 4000000
namespace LW
open PySem PySem.Spec PyProof.Rows L2 PD
section
variable {a b : Int} {F S : List (List Int)} {o : Int → Int} (a0 : 0 ≤ a) (b0 : 0 ≤ b) (sF : Smooth a F) (sS : Smooth b S) (oi : ∀ i j, 0 ≤ i → i < a + b → 0 ≤ j → j < a + b → o i = o j → i = j) (orr : ∀ i, 0 ≤ i → i < a + b → 0 ≤ o i ∧ o i < a + b)
def row36 (a : Int) (o : Int → Int) (X Y : List Int) : List Int := sortI ((X ++ Y.map fun j => j + a).map o)
omit a0 b0 sF sS oi orr in
theorem mem_row {a : Int} {o : Int → Int} {X Y : List Int} {z : Int} : z ∈ row36 a o X Y ↔ (∃ i ∈ X, o i = z) ∨ ∃ j ∈ Y, o (j + a) = z := by
  unfold row36
  rw [mem_sortI, List.mem_map]
  constructor
  · rintro ⟨i, hi, e⟩
    rcases List.mem_append.mp hi with h | h
    · exact .inl ⟨i, h, e⟩
    · obtain ⟨j, hj, rfl⟩ := List.mem_map.mp h
      exact .inr ⟨j, hj, e⟩
  · rintro (⟨i, hi, e⟩ | ⟨j, hj, e⟩)
    · exact ⟨i, List.mem_append_left _ hi, e⟩
    · exact ⟨j + a, List.mem_append_right _ (List.mem_map.mpr ⟨j, hj, rfl⟩), e⟩
include a0 b0 oi orr
theorem row_asc {X Y : List Int} (hX : Asc a X) (hY : Asc b Y) : Asc (a + b) (row36 a o X Y) := by
  have rg : ∀ i ∈ X ++ Y.map fun j => j + a, 0 ≤ i ∧ i < a + b := fun i hi => by
    rcases List.mem_append.mp hi with h | h
    · have := hX.2 i h; omega
    · obtain ⟨j, hj, rfl⟩ := List.mem_map.mp h
      have := hY.2 j hj; omega
  have nd : (X ++ Y.map fun j => j + a).Nodup := by
    rw [List.nodup_append]
    refine ⟨hX.1.imp fun {x y} h e => by omega, List.pairwise_map.mpr (hY.1.imp fun {x y} h e => by omega), fun x hx y hy e => ?_⟩
    obtain ⟨j, hj, rfl⟩ := List.mem_map.mp hy
    have := hX.2 x hx
    have := hY.2 j hj
    omega
  refine sortI_asc (List.pairwise_map.mpr (nd.imp_of_mem fun {x y} hx hy ne e => ne (oi x y (rg x hx).1 (rg x hx).2 (rg y hy).1 (rg y hy).2 e))) fun z hz => ?_
  · obtain ⟨i, hi, rfl⟩ := List.mem_map.mp hz
    obtain ⟨i0, i1⟩ := rg i hi
    exact orr i i0 i1
theorem in_left {X Y : List Int} (hX : Asc a X) (hY : Asc b Y) {i : Int} (i0 : 0 ≤ i ∧ i < a) : o i ∈ row36 a o X Y ↔ i ∈ X := by
  rw [mem_row]
  constructor
  · rintro (⟨k, hk, e⟩ | ⟨j, hj, e⟩)
    · have k0 := hX.2 k hk
      rw [← oi k i k0.1 (by omega) i0.1 (by omega) e]; exact hk
    · have j0 := hY.2 j hj
      have := oi (j + a) i (by omega) (by omega) i0.1 (by omega) e
      omega
  · exact fun h => .inl ⟨i, h, rfl⟩
theorem in_right {X Y : List Int} (hX : Asc a X) (hY : Asc b Y) {j : Int} (j0 : 0 ≤ j ∧ j < b) : o (j + a) ∈ row36 a o X Y ↔ j ∈ Y := by
  rw [mem_row]
  constructor
  · rintro (⟨k, hk, e⟩ | ⟨k, hk, e⟩)
    · have k0 := hX.2 k hk
      have := oi k (j + a) k0.1 (by omega) (by omega) (by omega) e
      omega
    · have k0 := hY.2 k hk
      have := oi (k + a) (j + a) (by omega) (by omega) (by omega) (by omega) e
      rw [show j = k by omega]; exact hk
  · exact fun h => .inr ⟨j, h, rfl⟩
theorem row_inj {X Y X' Y' : List Int} (hX : Asc a X) (hY : Asc b Y) (hX' : Asc a X') (hY' : Asc b Y') (e : row36 a o X Y = row36 a o X' Y') : X = X' ∧ Y = Y' := by
  refine ⟨asc_uniq hX.1 hX'.1 fun z => ?_, asc_uniq hY.1 hY'.1 fun z => ?_⟩
  · constructor
    · intro h
      have z0 := hX.2 z h
      have := (in_left a0 b0 oi orr hX hY z0).mpr h
      rw [e] at this
      exact (in_left a0 b0 oi orr hX' hY' z0).mp this
    · intro h
      have z0 := hX'.2 z h
      have := (in_left a0 b0 oi orr hX' hY' z0).mpr h
      rw [← e] at this
      exact (in_left a0 b0 oi orr hX hY z0).mp this
  · constructor
    · intro h
      have z0 := hY.2 z h
      have := (in_right a0 b0 oi orr hX hY z0).mpr h
      rw [e] at this
      exact (in_right a0 b0 oi orr hX' hY' z0).mp this
    · intro h
      have z0 := hY'.2 z h
      have := (in_right a0 b0 oi orr hX' hY' z0).mpr h
      rw [← e] at this
      exact (in_right a0 b0 oi orr hX hY z0).mp this
def rows36 (a : Int) (o : Int → Int) (F S : List (List Int)) : List (List Int) := F.flatMap fun X => S.map fun Y => row36 a o X Y
omit a0 b0 oi orr in
theorem mem_rows36 {a : Int} {o : Int → Int} {F S : List (List Int)} {z : List Int} : z ∈ rows36 a o F S ↔ ∃ X ∈ F, ∃ Y ∈ S, row36 a o X Y = z := by
  unfold rows36
  rw [List.mem_flatMap]
  exact ⟨fun ⟨X, hX, h⟩ => by
    obtain ⟨Y, hY, e⟩ := List.mem_map.mp h
    exact ⟨X, hX, Y, hY, e⟩, fun ⟨X, hX, Y, hY, e⟩ => ⟨X, hX, List.mem_map.mpr ⟨Y, hY, e⟩⟩⟩
include sF sS
theorem rows_nodup : (rows36 a o F S).Nodup := by
  unfold rows36
  refine List.pairwise_flatMap.mpr ⟨fun X hX => List.pairwise_map.mpr (sS.good.asd.nodup.imp_of_mem fun {Y Y'} hY hY' ne e => ne (row_inj a0 b0 oi orr (sF.good.asc X hX) (sS.good.asc Y hY) (sF.good.asc X hX) (sS.good.asc Y' hY') e).2), sF.good.asd.nodup.imp_of_mem fun {X X'} hX hX' ne => ?_⟩
  intro x hx y hy e
  obtain ⟨Y, hY, rfl⟩ := List.mem_map.mp hx
  obtain ⟨Y', hY', rfl⟩ := List.mem_map.mp hy
  exact ne (row_inj a0 b0 oi orr (sF.good.asc X hX) (sS.good.asc Y hY) (sF.good.asc X' hX') (sS.good.asc Y' hY') e).1
theorem rows_smooth (h6 : a + b ≤ 6) : Smooth (a + b) (sortT (rows36 a o F S)) := by
  have me : ∀ z, z ∈ sortT (rows36 a o F S) ↔ ∃ X ∈ F, ∃ Y ∈ S, row36 a o X Y = z := fun z => by rw [(sortT_perm _).mem_iff, mem_rows36]
  have asc : ∀ l ∈ sortT (rows36 a o F S), Asc (a + b) l := fun l hl => by
    obtain ⟨X, hX, Y, hY, rfl⟩ := (me l).mp hl
    exact row_asc a0 b0 oi orr (sF.good.asc X hX) (sS.good.asc Y hY)
  have nd := rows_nodup a0 b0 sF sS oi orr
  have asd : Asd (sortT (rows36 a o F S)) := asd_sortT nd
  refine ⟨⟨asc, asd, ?_, ?_⟩, ?_, ?_⟩
  · intro e
    obtain ⟨X, hX⟩ := List.exists_mem_of_ne_nil _ sF.good.ne
    obtain ⟨Y, hY⟩ := List.exists_mem_of_ne_nil _ sS.good.ne
    have := (me (row36 a o X Y)).mpr ⟨X, hX, Y, hY, rfl⟩
    rw [e] at this
    cases this
  · have := asc_few (by omega) h6 asd.nodup asc
    omega
  · intro l hl x hx k hk hxk
    obtain ⟨X, hX, Y, hY, rfl⟩ := (me l).mp hl
    obtain ⟨X', hX', Y', hY', rfl⟩ := (me k).mp hk
    have aX := sF.good.asc X hX
    have aY := sS.good.asc Y hY
    have aX' := sF.good.asc X' hX'
    have aY' := sS.good.asc Y' hY'
    have aR := row_asc a0 b0 oi orr aX aY
    rcases mem_row.mp hx with ⟨i, hi, rfl⟩ | ⟨j, hj, rfl⟩
    · have i0 := aX.2 i hi
      obtain ⟨t, ht, htX, he⟩ := sF.exc X hX i hi X' hX' fun q => hxk ((in_left a0 b0 oi orr aX' aY' i0).mpr q)
      have t0 := aX'.2 t ht
      have aE := sF.good.asc _ he
      refine ⟨o t, (in_left a0 b0 oi orr aX' aY' t0).mpr ht, fun q => htX ((in_left a0 b0 oi orr aX aY t0).mp q), (me _).mpr ⟨_, he, Y, hY, ?_⟩⟩
      refine asc_uniq (row_asc a0 b0 oi orr aE aY).1 (exch_asc aR (fun q => htX ((in_left a0 b0 oi orr aX aY t0).mp q)) (orr t t0.1 (by omega))).1 fun z => ?_
      rw [mem_exch, mem_row, mem_row]
      constructor
      · rintro (⟨k, hk, rfl⟩ | ⟨j, hj, rfl⟩)
        · rcases mem_exch.mp hk with ⟨kX, ki⟩ | rfl
          · have k0 := aX.2 k kX
            exact .inl ⟨.inl ⟨k, kX, rfl⟩, fun e => ki (oi k i k0.1 (by omega) i0.1 (by omega) e)⟩
          · exact .inr rfl
        · have j0 := aY.2 j hj
          exact .inl ⟨.inr ⟨j, hj, rfl⟩, fun e => by have := oi (j + a) i (by omega) (by omega) i0.1 (by omega) e; omega⟩
      · rintro (⟨⟨k, kX, rfl⟩ | ⟨j, hj, rfl⟩, ne⟩ | rfl)
        · exact .inl ⟨k, mem_exch.mpr (.inl ⟨kX, fun e => ne (by rw [e])⟩), rfl⟩
        · exact .inr ⟨j, hj, rfl⟩
        · exact .inl ⟨t, mem_exch.mpr (.inr rfl), rfl⟩
    · have j0 := aY.2 j hj
      obtain ⟨t, ht, htY, he⟩ := sS.exc Y hY j hj Y' hY' fun q => hxk ((in_right a0 b0 oi orr aX' aY' j0).mpr q)
      have t0 := aY'.2 t ht
      have aE := sS.good.asc _ he
      refine ⟨o (t + a), (in_right a0 b0 oi orr aX' aY' t0).mpr ht, fun q => htY ((in_right a0 b0 oi orr aX aY t0).mp q), (me _).mpr ⟨X, hX, _, he, ?_⟩⟩
      refine asc_uniq (row_asc a0 b0 oi orr aX aE).1 (exch_asc aR (fun q => htY ((in_right a0 b0 oi orr aX aY t0).mp q)) (orr (t + a) (by omega) (by omega))).1 fun z => ?_
      rw [mem_exch, mem_row, mem_row]
      constructor
      · rintro (⟨k, hk, rfl⟩ | ⟨k, hk, rfl⟩)
        · have k0 := aX.2 k hk
          exact .inl ⟨.inl ⟨k, hk, rfl⟩, fun e => by have := oi k (j + a) k0.1 (by omega) (by omega) (by omega) e; omega⟩
        · rcases mem_exch.mp hk with ⟨kY, kj⟩ | rfl
          · have k0 := aY.2 k kY
            exact .inl ⟨.inr ⟨k, kY, rfl⟩, fun e => kj (by have := oi (k + a) (j + a) (by omega) (by omega) (by omega) (by omega) e; omega)⟩
          · exact .inr rfl
      · rintro (⟨⟨k, hk, rfl⟩ | ⟨k, kY, rfl⟩, ne⟩ | rfl)
        · exact .inl ⟨k, hk, rfl⟩
        · exact .inr ⟨k, mem_exch.mpr (.inl ⟨kY, fun e => ne (by rw [e])⟩), rfl⟩
        · exact .inr ⟨t, mem_exch.mpr (.inr rfl), rfl⟩
  · intro l hl k hk
    obtain ⟨X, hX, Y, hY, rfl⟩ := (me l).mp hl
    obtain ⟨X', hX', Y', hY', rfl⟩ := (me k).mp hk
    have e : ∀ X Y : List Int, (row36 a o X Y).length = X.length + Y.length := fun X Y => by
      unfold row36
      rw [(sortD_ints _).2.length_eq, List.length_map, List.length_append, List.length_map]
    rw [e, e, sF.eqs X hX X' hX', sS.eqs Y hY Y' hY']
end
end LW
set_option Elab.async false
set_option linter.all false
set_option maxRecDepth 100000
set_option maxHeartbeats 4000000
namespace LW
open PySem PySem.Spec PyProof.Rows L2 PD
def ord36 (n : Int) (D : List Int) : List (List Int) := sortT ((rangeI 0 n).map fun k => [ixv D k, k])
def o36 (n : Int) (D : List Int) (i : Int) : Int := ixv (ixr (ord36 n D) i) 1
theorem ord_len {n : Int} (h0 : 0 ≤ n) (D : List Int) : ((ord36 n D).length : Int) = n := by
  unfold ord36
  rw [(sortT_perm _).length_eq, List.length_map, rangeI_len]
  omega
theorem ord_row {n : Int} {D : List Int} {r : List Int} (h : r ∈ ord36 n D) : ∃ k, (0 ≤ k ∧ k < n) ∧ r = [ixv D k, k] := by
  obtain ⟨k, hk, e⟩ := List.mem_map.mp ((sortT_perm _).mem_iff.mp h)
  exact ⟨k, mem_rangeI.mp hk, e.symm⟩
theorem o_rng {n : Int} (h0 : 0 ≤ n) (D : List Int) (i : Int) (i0 : 0 ≤ i) (i1 : i < n) : 0 ≤ o36 n D i ∧ o36 n D i < n := by
  obtain ⟨k, hk, e⟩ := ord_row (ixr_mem (L := ord36 n D) i0 (by rw [ord_len h0]; exact i1))
  unfold o36
  rw [e]
  exact hk
theorem o_inj {n : Int} (h0 : 0 ≤ n) (D : List Int) (i j : Int) (i0 : 0 ≤ i) (i1 : i < n) (j0 : 0 ≤ j) (j1 : j < n) (e : o36 n D i = o36 n D j) : i = j := by
  have l := ord_len h0 D
  have nd : ((ord36 n D).map fun r => ixv r 1).Nodup := by
    have p : ((ord36 n D).map fun r => ixv r 1).Perm (rangeI 0 n) := by
      refine ((sortT_perm _).map _).trans ?_
      rw [List.map_map]
      have : (rangeI 0 n).map ((fun r => ixv r 1) ∘ fun k => [ixv D k, k]) = rangeI 0 n := by
        conv => rhs; rw [← List.map_id (rangeI 0 n)]
        exact List.map_congr_left fun k _ => rfl
      rw [this]
    exact p.nodup_iff.mpr ((rangeI_asc 0 n).imp fun {x y} h e => by omega)
  have at' : ∀ k : Int, 0 ≤ k → k < n → ((ord36 n D).map fun r => ixv r 1)[k.toNat]? = some (o36 n D k) := fun k k0 k1 => by
    rw [List.getElem?_map, List.getElem?_eq_getElem (by omega)]
    unfold o36 ixr
    rw [List.getElem?_eq_getElem (by omega)]
    rfl
  have a := at' i i0 i1
  have b := at' j j0 j1
  rw [e] at a
  have li : i.toNat < ((ord36 n D).map fun r => ixv r 1).length := by rw [List.length_map]; omega
  have lj : j.toNat < ((ord36 n D).map fun r => ixv r 1).length := by rw [List.length_map]; omega
  rw [List.getElem?_eq_getElem li] at a
  rw [List.getElem?_eq_getElem lj] at b
  have := (List.getElem_inj nd).mp ((Option.some.inj a).trans (Option.some.inj b).symm)
  omega
theorem rows_len (a : Int) (o : Int → Int) (F S : List (List Int)) : (rows36 a o F S).length = F.length * S.length := by
  induction F with
  | nil => show 0 = _; simp
  | cons x F ih =>
    show ((S.map fun Y => row36 a o x Y) ++ rows36 a o F S).length = _
    rw [List.length_append, List.length_map, ih, List.length_cons, Nat.add_mul, Nat.one_mul, Nat.add_comm]
theorem v_beside {a b c : Int} {F S : List (List Int)} (a0 : 0 ≤ a) (b0 : 0 ≤ b) (h6 : a + b ≤ 6) (sF : Smooth a F) (sS : Smooth b S) : ∃ ls, m_law_beside [.int c, tt F, tt S, .int a, .int (a + b)] = .ok (ofr (a + b) ls) ∧ Smooth (a + b) ls := by
  obtain ⟨D, eD, hD, bD⟩ := v_draws c (a + b + 1) (by omega) (by omega)
  have hD' : (D.length : Int) = a + b + 1 := by rw [hD]; omega
  obtain ⟨n, hn⟩ : ∃ n, n = a + b := ⟨_, rfl⟩
  have n0 : 0 ≤ n := by omega
  obtain ⟨o, ho⟩ : ∃ o, o = o36 n D := ⟨_, rfl⟩
  have oi : ∀ i j, 0 ≤ i → i < a + b → 0 ≤ j → j < a + b → o i = o j → i = j := fun i j i0 i1 j0 j1 e => by
    rw [ho] at e
    exact o_inj n0 D i j i0 (by omega) j0 (by omega) e
  have orr : ∀ i, 0 ≤ i → i < a + b → 0 ≤ o i ∧ o i < a + b := fun i i0 i1 => by
    rw [ho, ← hn]
    exact o_rng n0 D i i0 (by omega)
  refine ⟨sortT (rows36 a o F S), ?_, rows_smooth a0 b0 sF sS oi orr h6⟩
  rw [← hn] at eD hD' ⊢
  have lF := asc_few a0 (by omega) sF.good.asd.nodup sF.good.asc
  have lS := asc_few b0 (by omega) sS.good.asd.nodup sS.good.asc
  let r0 : Option Sl → Option Sl → Option Sl → Option Sl → Option Sl → Option Sl → Rho := fun x5 x6 x7 x8 x9 x10 => [some (.d (.int c)), some (.d (tt F)), some (.d (tt S)), some (.d (.int a)), some (.d (.int n)), x5, x6, x7, x8, x9, x10, none, none]
  let X5 : Option Sl := some (.d (li D))
  have s1 : gSet (dArg m_law_draws (dCons (dVar 0) (dCons (dTwo oAdd (dVar 4) (dC (.int 1))) dNil))) (.nm 5) (r0 none none none none none none) = .nx (r0 X5 none none none none none) := set_of ((arg_of (m := m_law_draws) (cons_of (f := dVar 0) (a := .int c) rfl (cons_of (g := dNil) ((two_of (u := oAdd) (f := dVar 4) (a := .int n) (g := dC (.int 1)) (b := .int 1) rfl rfl).trans (oAdd_int _ _)) rfl))).trans eD) (set_nm _ _ _)
  let X6 : Option Sl := some (.d (lt (ord36 n D)))
  have s2 : gSet (dArg bSorted (dCons (dLc (dRng1 (dCons (dVar 4) dNil)) (.nm 11) dYes (dTup (dCons (dArg bInt (dCons (dTwo oIx (dVar 5) (dVar 11)) dNil)) (dCons (dVar 11) dNil))) [11]) dNil)) (.nm 6) (r0 X5 none none none none none) = .nx (r0 X5 X6 none none none none) := by
    have lc := lc_of (enc := PyData.int) (fi := dRng1 (dCons (dVar 4) dNil)) (t := .nm 11) (ft := dYes) (fe := dTup (dCons (dArg bInt (dCons (dTwo oIx (dVar 5) (dVar 11)) dNil)) (dCons (dVar 11) dNil))) (vs := [11]) (ρ := r0 X5 none none none none none) (xs := rangeI 0 n) (st := fun k => (r0 X5 none none none none none).set 11 (some (.d (.int k)))) (q := fun _ => true) (g := fun k => tu [ixv D k, k]) (by
      have z := cons_of (f := dVar 4) (a := .int n) (g := dNil) (ρ := r0 X5 none none none none none) rfl rfl
      show ((dCons _ dNil) _ >>= rngA1) = _
      rw [z, R.bind_ok, rngA1_ok (by omega) (by omega)]) (fun k hk => ⟨rfl, rfl, fun _ => by
      obtain ⟨k0, k1⟩ := mem_rangeI.mp hk
      exact tupl_of (cons_of ((arg_of (m := bInt) (cons_of (g := dNil) ((two_of (u := oIx) (f := dVar 5) (a := li D) (g := dVar 11) (b := .int k) rfl rfl).trans (ix_li (L := D) k0 (by omega))) rfl)).trans rfl) (cons_of (f := dVar 11) (a := .int k) (g := dNil) rfl rfl))⟩)
    rw [List.filter_eq_self.mpr fun _ _ => rfl] at lc
    refine set_of ((arg_of (m := bSorted) (cons_of (g := dNil) lc rfl)).trans ?_) (set_nm _ _ _)
    have e : PyData.list ((rangeI 0 n).map fun k => tu [ixv D k, k]) = lt ((rangeI 0 n).map fun k => [ixv D k, k]) := by
      show _ = PyData.list (((rangeI 0 n).map fun k => [ixv D k, k]).map tu)
      rw [List.map_map]; rfl
    rw [e, bSorted_lt]
    rfl
  have s3 : gOwn (dLst dNil) 7 (r0 X5 X6 none none none none) = .nx (r0 X5 X6 (some (.own [])) none none none) := rfl
  have body : ∀ (X Y : List Int) (Rs : List (List Int)) (x10 : Option Sl), Asc a X → Asc b Y → Rs.length ≤ 5000 → b_law_beside_1 (r0 X5 X6 (some (.own (Rs.map tu))) (some (.d (tu X))) (some (.d (tu Y))) x10) = .nx (r0 X5 X6 (some (.own ((Rs ++ [row36 a o X Y]).map tu))) (some (.d (tu X))) (some (.d (tu Y))) (some (.d (li (X ++ Y.map fun j => j + a))))) := fun X Y Rs x10 hX hY hR => by
    let ρ0 : Rho := r0 X5 X6 (some (.own (Rs.map tu))) (some (.d (tu X))) (some (.d (tu Y))) x10
    have xl := hX.len
    have yl := hY.len
    have lc1 := lc_of (enc := PyData.int) (fi := dItems (dVar 9)) (t := .nm 12) (ft := dYes) (fe := dTwo oAdd (dVar 12) (dVar 3)) (vs := [12]) (ρ := ρ0) (xs := Y) (st := fun k => ρ0.set 12 (some (.d (.int k)))) (q := fun _ => true) (g := fun k => PyData.int (k + a)) rfl (fun k _ => ⟨rfl, rfl, fun _ => (two_of (u := oAdd) (f := dVar 12) (a := .int k) (g := dVar 3) (b := .int a) rfl rfl).trans (oAdd_int _ _)⟩)
    rw [List.filter_eq_self.mpr fun _ _ => rfl] at lc1
    have e1 : dTwo oAdd (dArg bList (dCons (dVar 8) dNil)) (dLc (dItems (dVar 9)) (.nm 12) dYes (dTwo oAdd (dVar 12) (dVar 3)) [12]) ρ0 = .ok (li (X ++ Y.map fun j => j + a)) := by
      refine (two_of (u := oAdd) (a := li X) (b := li (Y.map fun j => j + a)) ((arg_of (m := bList) (cons_of (f := dVar 8) (a := tu X) (g := dNil) rfl rfl)).trans rfl) (lc1.trans ?_)).trans ?_
      · show PD.R.ok (PyData.list (Y.map fun k => PyData.int (k + a))) = PD.R.ok (PyData.list ((Y.map fun j => j + a).map PyData.int))
        rw [List.map_map]; rfl
      · show (if (X.map PyData.int).length + ((Y.map fun j => j + a).map PyData.int).length ≤ sizeLine then PD.R.ok (PyData.list (X.map PyData.int ++ (Y.map fun j => j + a).map PyData.int)) else _) = _
        rw [if_pos (by rw [List.length_map, List.length_map, List.length_map, sizeLine_eq]; omega), ← List.map_append]
        rfl
    let ρ1 : Rho := r0 X5 X6 (some (.own (Rs.map tu))) (some (.d (tu X))) (some (.d (tu Y))) (some (.d (li (X ++ Y.map fun j => j + a))))
    have lc2 := lc_of (enc := PyData.int) (fi := dItems (dVar 10)) (t := .nm 12) (ft := dYes) (fe := dTwo oIx (dTwo oIx (dVar 6) (dVar 12)) (dC (.int 1))) (vs := [12]) (ρ := ρ1) (xs := X ++ Y.map fun j => j + a) (st := fun k => ρ1.set 12 (some (.d (.int k)))) (q := fun _ => true) (g := fun k => PyData.int (o k)) rfl (fun k hk => ⟨rfl, rfl, fun _ => by
      have kr : 0 ≤ k ∧ k < n := by
        rcases List.mem_append.mp hk with h | h
        · have := hX.2 k h; omega
        · obtain ⟨j, hj, rfl⟩ := List.mem_map.mp h
          have := hY.2 j hj; omega
      have lo := ord_len n0 D
      obtain ⟨m, hm, e⟩ := ord_row (ixr_mem (L := ord36 n D) kr.1 (by omega))
      have h := List.getElem?_eq_getElem (l := ord36 n D) (i := k.toNat) (by omega)
      have ir : ixr (ord36 n D) k = (ord36 n D)[k.toNat]'(by omega) := by unfold ixr; rw [h]; rfl
      have e2 : oIx (lt (ord36 n D)) (.int k) = .ok (tu (ixr (ord36 n D) k)) := by rw [ir]; exact oIx_lt kr.1 h
      refine (two_of (u := oIx) ((two_of (u := oIx) (f := dVar 6) (a := lt (ord36 n D)) (g := dVar 12) (b := .int k) rfl rfl).trans e2) (g := dC (.int 1)) (b := .int 1) rfl).trans ?_
      rw [ho]
      unfold o36
      rw [e]
      rfl⟩)
    rw [List.filter_eq_self.mpr fun _ _ => rfl] at lc2
    have e2 : dArg bTuple (dCons (dArg bSorted (dCons (dLc (dItems (dVar 10)) (.nm 12) dYes (dTwo oIx (dTwo oIx (dVar 6) (dVar 12)) (dC (.int 1))) [12]) dNil)) dNil) ρ1 = .ok (tu (row36 a o X Y)) := by
      have z : dLc (dItems (dVar 10)) (.nm 12) dYes (dTwo oIx (dTwo oIx (dVar 6) (dVar 12)) (dC (.int 1))) [12] ρ1 = .ok (li ((X ++ Y.map fun j => j + a).map o)) := by
        rw [lc2]
        show PD.R.ok (PyData.list _) = PD.R.ok (PyData.list (((X ++ Y.map fun j => j + a).map o).map PyData.int))
        rw [List.map_map]; rfl
      exact (arg_of (m := bTuple) (cons_of (g := dNil) ((arg_of (m := bSorted) (cons_of (g := dNil) z rfl)).trans (bSorted_li _)) rfl)).trans rfl
    show b_law_beside_1 ρ0 = _
    unfold b_law_beside_1
    rw [seq_of (set_of e1 (set_nm _ _ _))]
    show ownAt ρ1 7 _ = _
    show oR (dArg bTuple _ ρ1) _ _ = _
    rw [e2, oR_ok, if_pos (by rw [List.length_map, sizeLine_eq]; omega)]
    rw [List.map_append]
    rfl
  obtain ⟨ρ4, e4, done, x8, x9, x10, rfl, hd⟩ := forGo_inv (i := 8) (g := b_law_beside_2) (enc := tu) (fun xs ρ => ∃ (done : List (List Int)) (x8 x9 x10 : Option Sl), ρ = r0 X5 X6 (some (.own ((rows36 a o done S).map tu))) x8 x9 x10 ∧ done ++ xs = F) (by
    rintro X xs ρ ⟨done, x8, x9, x10, rfl, hd⟩
    have hX : X ∈ F := by rw [← hd]; simp
    have dl : done.length ≤ 64 := by
      have : done.length ≤ F.length := by rw [← hd, List.length_append]; omega
      omega
    have rl : (rows36 a o done S).length = done.length * S.length := rows_len _ _ _ _
    have rb : done.length * S.length ≤ 64 * 64 := Nat.mul_le_mul dl lS
    obtain ⟨ρ5, e5, dn2, y9, y10, rfl, hd2⟩ := forGo_inv (i := 9) (g := b_law_beside_1) (enc := tu) (fun ys ρ => ∃ (dn2 : List (List Int)) (x9 x10 : Option Sl), ρ = r0 X5 X6 (some (.own ((rows36 a o done S ++ dn2.map fun Y => row36 a o X Y).map tu))) (some (.d (tu X))) x9 x10 ∧ dn2 ++ ys = S) (by
      rintro Y ys ρ ⟨dn2, x9, x10, rfl, hd2⟩
      have hY : Y ∈ S := by rw [← hd2]; simp
      have l2 : dn2.length ≤ 64 := by
        have : dn2.length ≤ S.length := by rw [← hd2, List.length_append]; omega
        omega
      have bb := body X Y (rows36 a o done S ++ dn2.map fun Y => row36 a o X Y) x10 (sF.good.asc X hX) (sS.good.asc Y hY) (by rw [List.length_append, List.length_map, rl]; omega)
      refine ⟨_, bb, dn2 ++ [Y], some (.d (tu Y)), some (.d (li (X ++ Y.map fun j => j + a))), ?_, by rw [List.append_assoc]; exact hd2⟩
      rw [List.map_append (f := fun Y => row36 a o X Y), ← List.append_assoc]
      rfl) S (r0 X5 X6 (some (.own ((rows36 a o done S).map tu))) (some (.d (tu X))) x9 x10) ⟨[], x9, x10, by rw [List.map_nil, List.append_nil], rfl⟩
    rw [List.append_nil] at hd2
    subst hd2
    refine ⟨r0 X5 X6 (some (.own ((rows36 a o done dn2 ++ dn2.map fun Y => row36 a o X Y).map tu))) (some (.d (tu X))) y9 y10, ?_, done ++ [X], some (.d (tu X)), y9, y10, ?_, by rw [List.append_assoc]; exact hd⟩
    · show b_law_beside_2 (r0 X5 X6 (some (.own ((rows36 a o done dn2).map tu))) (some (.d (tu X))) x9 x10) = _
      unfold b_law_beside_2
      rw [ev_for, show dItems (dVar 2) (r0 X5 X6 (some (.own ((rows36 a o done dn2).map tu))) (some (.d (tu X))) x9 x10) = .ok (dn2.map tu) from rfl, oR_ok]
      exact e5
    · have : rows36 a o (done ++ [X]) dn2 = rows36 a o done dn2 ++ dn2.map fun Y => row36 a o X Y := by
        unfold rows36
        rw [List.flatMap_append]
        simp
      rw [this]) F (r0 X5 X6 (some (.own [])) none none none) ⟨[], none, none, none, rfl, rfl⟩
  rw [List.append_nil] at hd
  subst hd
  have s4 : gFor (dItems (dVar 1)) (.nm 8) b_law_beside_2 (r0 X5 X6 (some (.own [])) none none none) = .nx (r0 X5 X6 (some (.own ((rows36 a o done S).map tu))) x8 x9 x10) := by
    rw [ev_for, show dItems (dVar 1) (r0 X5 X6 (some (.own [])) none none none) = .ok (done.map tu) from rfl, oR_ok, e4]
  have fin : dTup (dCons (dVar 4) (dCons (dArg bTuple (dCons (dArg bSorted (dCons (dVar 7) dNil)) dNil)) dNil)) (r0 X5 X6 (some (.d (lt (rows36 a o done S)))) x8 x9 x10) = .ok (ofr n (sortT (rows36 a o done S))) := tupl_of (cons_of (f := dVar 4) (a := .int n) rfl (cons_of (g := dNil) ((arg_of (m := bTuple) (cons_of (g := dNil) ((arg_of (m := bSorted) (cons_of (f := dVar 7) (a := lt (rows36 a o done S)) (g := dNil) rfl rfl)).trans (bSorted_lt _)) rfl)).trans rfl) rfl))
  show endR (g_law_beside (r0 none none none none none none)) = _
  unfold g_law_beside
  rw [seq_of s1, seq_of s2, seq_of s3, seq_of s4]
  show endR (gRet _ (r0 X5 X6 (some (.d (lt (rows36 a o done S)))) x8 x9 x10)) = _
  rw [ret_of fin]
  rfl
end LW
set_option Elab.async false
set_option linter.all false
set_option maxRecDepth 100000
set_option maxHeartbeats 4000000
namespace LW
open PySem PySem.Spec PyProof.Rows L2 PD
theorem v_law_offer36 (ns : List Int) : ∃ n ls, 0 ≤ n ∧ n ≤ 6 ∧ Smooth n ls ∧ m_law_offer_k36 [li ns] = .ok (ofr n ls) := by
  obtain ⟨c0, e0⟩ := v_cell ns 0 (by decide)
  obtain ⟨c1, e1⟩ := v_cell ns 1 (by decide)
  obtain ⟨c2, e2⟩ := v_cell ns 2 (by decide)
  obtain ⟨c3, e3⟩ := v_cell ns 3 (by decide)
  obtain ⟨D, eD, hD, _⟩ := v_draws c0 4 (by decide) (by decide)
  have hD4 : D.length = 4 := hD
  have cell : ∀ {k c : Int} {ρ : Rho}, m_law_cell [li ns, .int k] = .ok (.int c) → dVar 0 ρ = .ok (li ns) → dArg m_law_cell (dCons (dVar 0) (dCons (dC (.int k)) dNil)) ρ = .ok (.int c) := fun e h => (arg_of (m := m_law_cell) (cons_of h (cons_of (f := dC (.int _)) (g := dNil) rfl rfl))).trans e
  have md : ∀ {ρ : Rho} {i m : Int}, dVar 1 ρ = .ok (li D) → 0 ≤ i → i < 4 → m ≠ 0 → dTwo oMod (dArg bInt (dCons (dTwo oIx (dVar 1) (dC (.int i))) dNil)) (dC (.int m)) ρ = .ok (.int ((ixv D i).fmod m)) := fun {ρ i m} h i0 i1 hm => (two_of (u := oMod) ((arg_of (m := bInt) (cons_of (g := dNil) ((two_of (u := oIx) h (g := dC (.int i)) rfl).trans (ix_li (L := D) i0 (by omega))) rfl)).trans (bInt_int _)) (g := dC (.int m)) rfl).trans (oMod_int hm)
  have dr : ∀ {tl : DnL} {T : List Int} {ρ : Rho} {i m : Int}, dVar 1 ρ = .ok (li D) → dTup tl ρ = .ok (tu T) → (T.length : Int) = m → 0 < m → 0 ≤ i → i < 4 → ∃ v ∈ T, dTwo oIx (dTup tl) (dTwo oMod (dArg bInt (dCons (dTwo oIx (dVar 1) (dC (.int i))) dNil)) (dC (.int m))) ρ = .ok (.int v) := fun {tl T ρ i m} hv ht hT m0 i0 i1 => by
    have a := fmod_lo (ixv D i) (b := m) m0
    have b := fmod_hi (ixv D i) (b := m) m0
    exact ⟨_, ixv_mem a (by omega), (two_of ht (md hv i0 i1 (by omega))).trans (ix_tu a (by omega))⟩
  let r0 : Option Sl → Option Sl → Option Sl → Option Sl → Option Sl → Option Sl → Rho := fun x1 x2 x3 x4 x5 x6 => [some (.d (li ns)), x1, x2, x3, x4, x5, x6]
  let X1 : Option Sl := some (.d (li D))
  have s0 : (gSet (dArg m_law_draws (dCons (dArg m_law_cell (dCons (dVar 0) (dCons (dC (.int 0)) dNil))) (dCons (dC (.int 4)) dNil))) (.nm 1)) (r0 none none none none none none) = .nx (r0 X1 none none none none none) := set_of ((arg_of (m := m_law_draws) (cons_of (cell e0 rfl) (cons_of (f := dC (.int 4)) (g := dNil) rfl rfl))).trans eD) (set_nm _ _ _)
  have q1 := asB_of ((two_of (u := oEq) (md (ρ := r0 X1 none none none none none) (i := 0) (m := 2) rfl (by decide) (by decide) (by decide)) (g := dC (.int 0)) rfl).trans (oEq_int _ _))
  cases hb : ((ixv D 0).fmod 2 == 0) with
  | true =>
    rw [hb] at q1
    obtain ⟨n, hn, en⟩ := dr (ρ := r0 X1 none none none none none) (m := 7) (i := 1) (tl := (dCons (dC (.int 5)) (dCons (dC (.int 4)) (dCons (dC (.int 3)) (dCons (dC (.int 4)) (dCons (dC (.int 2)) (dCons (dC (.int 0)) (dCons (dC (.int 1)) dNil)))))))) (T := [5, 4, 3, 4, 2, 0, 1]) rfl rfl rfl (by decide) (by decide) (by decide)
    have nb : 0 ≤ n ∧ n ≤ 5 := by simp only [List.mem_cons, List.not_mem_nil, or_false] at hn; omega
    obtain ⟨ls, el, sm⟩ := v_smooth2 c1 n nb.1 (by omega)
    refine ⟨n, ls, nb.1, by omega, sm, ?_⟩
    have t0 : (gSet (dTwo oIx (dTup (dCons (dC (.int 5)) (dCons (dC (.int 4)) (dCons (dC (.int 3)) (dCons (dC (.int 4)) (dCons (dC (.int 2)) (dCons (dC (.int 0)) (dCons (dC (.int 1)) dNil)))))))) (dTwo oMod (dArg bInt (dCons (dTwo oIx (dVar 1) (dC (.int 1))) dNil)) (dC (.int 7)))) (.nm 2)) (r0 X1 none none none none none) = .nx (r0 X1 (some (.d (.int n))) none none none none) := set_of en (set_nm _ _ _)
    have t1 : (dTup (dCons (dVar 2) (dCons (dArg m_law_smooth_lots (dCons (dArg m_law_cell (dCons (dVar 0) (dCons (dC (.int 1)) dNil))) (dCons (dVar 2) dNil))) dNil))) (r0 X1 (some (.d (.int n))) none none none none) = .ok (ofr n ls) := tupl_of (cons_of (f := dVar 2) (a := .int n) rfl (cons_of (g := dNil) ((arg_of (m := m_law_smooth_lots) (cons_of (cell e1 rfl) (cons_of (f := dVar 2) (a := .int n) (g := dNil) rfl rfl))).trans el) rfl))
    show endR (g_law_offer_k36 (r0 none none none none none none)) = _
    unfold g_law_offer_k36
    rw [seq_of s0, ev_seq, if_t q1, seq_of t0, ret_of t1]
    rfl
  | false =>
    rw [hb] at q1
    obtain ⟨a, ha, ea⟩ := dr (ρ := r0 X1 none none none none none) (m := 4) (i := 2) (tl := (dCons (dC (.int 3)) (dCons (dC (.int 2)) (dCons (dC (.int 3)) (dCons (dC (.int 1)) dNil))))) (T := [3, 2, 3, 1]) rfl rfl rfl (by decide) (by decide) (by decide)
    have ab : 0 ≤ a ∧ a ≤ 3 := by simp only [List.mem_cons, List.not_mem_nil, or_false] at ha; omega
    let X3 : Option Sl := some (.d (.int a))
    obtain ⟨b, hb', eb⟩ := dr (ρ := r0 X1 none X3 none none none) (m := 4) (i := 3) (tl := (dCons (dC (.int 3)) (dCons (dC (.int 2)) (dCons (dC (.int 1)) (dCons (dC (.int 3)) dNil))))) (T := [3, 2, 1, 3]) rfl rfl rfl (by decide) (by decide) (by decide)
    have bb : 0 ≤ b ∧ b ≤ 3 := by simp only [List.mem_cons, List.not_mem_nil, or_false] at hb'; omega
    let X4 : Option Sl := some (.d (.int b))
    obtain ⟨F, eF, sF⟩ := v_smooth2 c1 a ab.1 (by omega)
    obtain ⟨S, eS, sS⟩ := v_smooth2 c2 b bb.1 (by omega)
    obtain ⟨ls, el, sm⟩ := v_beside (c := c3) ab.1 bb.1 (by omega) sF sS
    refine ⟨a + b, ls, by omega, by omega, sm, ?_⟩
    have s2 : (gSet (dTwo oIx (dTup (dCons (dC (.int 3)) (dCons (dC (.int 2)) (dCons (dC (.int 3)) (dCons (dC (.int 1)) dNil))))) (dTwo oMod (dArg bInt (dCons (dTwo oIx (dVar 1) (dC (.int 2))) dNil)) (dC (.int 4)))) (.nm 3)) (r0 X1 none none none none none) = .nx (r0 X1 none X3 none none none) := set_of ea (set_nm _ _ _)
    have s3 : (gSet (dTwo oIx (dTup (dCons (dC (.int 3)) (dCons (dC (.int 2)) (dCons (dC (.int 1)) (dCons (dC (.int 3)) dNil))))) (dTwo oMod (dArg bInt (dCons (dTwo oIx (dVar 1) (dC (.int 3))) dNil)) (dC (.int 4)))) (.nm 4)) (r0 X1 none X3 none none none) = .nx (r0 X1 none X3 X4 none none) := set_of eb (set_nm _ _ _)
    have s4 : (gSet (dArg m_law_smooth_lots (dCons (dArg m_law_cell (dCons (dVar 0) (dCons (dC (.int 1)) dNil))) (dCons (dVar 3) dNil))) (.nm 5)) (r0 X1 none X3 X4 none none) = .nx (r0 X1 none X3 X4 (some (.d (tt F))) none) := set_of ((arg_of (m := m_law_smooth_lots) (cons_of (cell e1 rfl) (cons_of (f := dVar 3) (a := .int a) (g := dNil) rfl rfl))).trans eF) (set_nm _ _ _)
    have s5 : (gSet (dArg m_law_smooth_lots (dCons (dArg m_law_cell (dCons (dVar 0) (dCons (dC (.int 2)) dNil))) (dCons (dVar 4) dNil))) (.nm 6)) (r0 X1 none X3 X4 (some (.d (tt F))) none) = .nx (r0 X1 none X3 X4 (some (.d (tt F))) (some (.d (tt S)))) := set_of ((arg_of (m := m_law_smooth_lots) (cons_of (cell e2 rfl) (cons_of (f := dVar 4) (a := .int b) (g := dNil) rfl rfl))).trans eS) (set_nm _ _ _)
    have e6 : (dArg m_law_beside (dCons (dArg m_law_cell (dCons (dVar 0) (dCons (dC (.int 3)) dNil))) (dCons (dVar 5) (dCons (dVar 6) (dCons (dVar 3) (dCons (dTwo oAdd (dVar 3) (dVar 4)) dNil)))))) (r0 X1 none X3 X4 (some (.d (tt F))) (some (.d (tt S)))) = .ok (ofr (a + b) ls) := (arg_of (m := m_law_beside) (cons_of (cell e3 rfl) (cons_of (f := dVar 5) (a := tt F) rfl (cons_of (f := dVar 6) (a := tt S) rfl (cons_of (f := dVar 3) (a := .int a) rfl (cons_of (g := dNil) ((two_of (u := oAdd) (f := dVar 3) (a := .int a) (g := dVar 4) (b := .int b) rfl rfl).trans (oAdd_int _ _)) rfl)))))).trans el
    show endR (g_law_offer_k36 (r0 none none none none none none)) = _
    unfold g_law_offer_k36
    rw [seq_of s0, seq_if_f q1, seq_of s2, seq_of s3, seq_of s4, seq_of s5, ret_of e6]
    rfl
theorem main_k36 (ns : List Int) (hn : ns.length ≤ 63) : m_law_k36 [.list (ns.map .int)] = .ok (.bool true) := by
  obtain ⟨n, ls, n0, n6, sm, e⟩ := v_law_offer36 ns
  have t := v_tells36 n0 n6 sm
  let r0 : Option Sl → Rho := fun x => [some (.d (li ns)), x]
  have s1 : gSet (dArg m_law_offer_k36 (dCons (dVar 0) dNil)) (.nm 1) (r0 none) = .nx (r0 (some (.d (ofr n ls)))) := set_of ((arg_of (m := m_law_offer_k36) (cons_of (f := dVar 0) (a := li ns) (g := dNil) rfl rfl)).trans e) (set_nm _ _ _)
  have a : dArg m_law_tells_k36 (dCons (dVar 1) dNil) (r0 (some (.d (ofr n ls)))) = .ok (.bool true) := (arg_of (m := m_law_tells_k36) (cons_of (f := dVar 1) (a := ofr n ls) (g := dNil) rfl rfl)).trans t
  show endR (g_law_k36 (r0 none)) = _
  unfold g_law_k36
  rw [seq_of s1, ret_of (and_V a a)]
  rfl
end LW
set_option Elab.async false
set_option linter.all false
set_option maxRecDepth 100000
set_option maxHeartbeats 4000000
namespace LW
open PySem PySem.Spec PyProof.Rows L2 PD
theorem all_mk {l : PySem.W.OpenLaw} {w : World} {K : PySem.W.Frag} {h : Heap} {mg : Str → Option Value} {fa : Addr} (X : K.In h) (G : h.Ns mainGlobals mg) (hfa : mg "law" = some (.ref fa))
    {f1 f2 f3 f4 f5 f6 f7 f8 f9 f10 f11 f12 f13 f14 f15 f16 f17 f18 f19 f20 f21 f22 f23 f24 f25 f26 : Addr} {od1 an1 od2 an2 od3 an3 od4 an4 od5 an5 od6 an6 od7 an7 od8 an8 od9 an9 od10 an10 od11 an11 od12 an12 od13 an13 od14 an14 od15 an15 od16 an16 od17 an17 od18 an18 od19 an19 od20 an20 od21 an21 od22 an22 od23 an23 od24 an24 od25 an25 od26 an26 : Option Addr} {sl1 sl2 sl3 sl4 sl5 sl6 sl7 sl8 sl9 sl10 sl11 sl12 sl13 sl14 sl15 sl16 sl17 sl18 sl19 sl20 sl21 sl22 sl23 sl24 sl25 sl26 : Array (Option Value)} {oc1 kV1 dc1 pm1 ct1 cd1 oc2 kV2 dc2 pm2 ct2 cd2 oc3 kV3 dc3 pm3 ct3 cd3 oc4 kV4 dc4 pm4 ct4 cd4 oc5 kV5 dc5 pm5 ct5 cd5 oc6 kV6 dc6 pm6 ct6 cd6 oc7 kV7 dc7 pm7 ct7 cd7 oc8 kV8 dc8 pm8 ct8 cd8 oc9 kV9 dc9 pm9 ct9 cd9 oc10 kV10 dc10 pm10 ct10 cd10 oc11 kV11 dc11 pm11 ct11 cd11 oc12 kV12 dc12 pm12 ct12 cd12 oc13 kV13 dc13 pm13 ct13 cd13 oc14 kV14 dc14 pm14 ct14 cd14 oc15 kV15 dc15 pm15 ct15 cd15 oc16 kV16 dc16 pm16 ct16 cd16 oc17 kV17 dc17 pm17 ct17 cd17 oc18 kV18 dc18 pm18 ct18 cd18 oc19 kV19 dc19 pm19 ct19 cd19 oc20 kV20 dc20 pm20 ct20 cd20 oc21 kV21 dc21 pm21 ct21 cd21 oc22 kV22 dc22 pm22 ct22 cd22 oc23 kV23 dc23 pm23 ct23 cd23 oc24 kV24 dc24 pm24 ct24 cd24 oc25 kV25 dc25 pm25 ct25 cd25 oc26 kV26 dc26 pm26 ct26 cd26 : Value}
    (a1 : PySem.W.nsIn K mainGlobals "_law_draws" = some (some (.ref f1))) (l1 : K.lookup f1 = some ⟨oc1, od1, .func (PySem.W.fnOf "_law_draws" "_law_draws" (defArgs s_law_draws) (defBody s_law_draws) (defScope s_law_draws) .none kV1 dc1 pm1 an1 cd1 ct1), sl1⟩) (c1 : PySem.W.codeIn K cd1 "_law_draws" = true) (k1 : PySem.W.keepIn K (.ref f1) = true)
    (a2 : PySem.W.nsIn K mainGlobals "_law_parts_of" = some (some (.ref f2))) (l2 : K.lookup f2 = some ⟨oc2, od2, .func (PySem.W.fnOf "_law_parts_of" "_law_parts_of" (defArgs s_law_parts_of) (defBody s_law_parts_of) (defScope s_law_parts_of) .none kV2 dc2 pm2 an2 cd2 ct2), sl2⟩) (c2 : PySem.W.codeIn K cd2 "_law_parts_of" = true) (k2 : PySem.W.keepIn K (.ref f2) = true)
    (a3 : PySem.W.nsIn K mainGlobals "_law_rest" = some (some (.ref f3))) (l3 : K.lookup f3 = some ⟨oc3, od3, .func (PySem.W.fnOf "_law_rest" "_law_rest" (defArgs s_law_rest) (defBody s_law_rest) (defScope s_law_rest) .none kV3 dc3 pm3 an3 cd3 ct3), sl3⟩) (c3 : PySem.W.codeIn K cd3 "_law_rest" = true) (k3 : PySem.W.keepIn K (.ref f3) = true)
    (a4 : PySem.W.nsIn K mainGlobals "_law_count" = some (some (.ref f4))) (l4 : K.lookup f4 = some ⟨oc4, od4, .func (PySem.W.fnOf "_law_count" "_law_count" (defArgs s_law_count) (defBody s_law_count) (defScope s_law_count) .none kV4 dc4 pm4 an4 cd4 ct4), sl4⟩) (c4 : PySem.W.codeIn K cd4 "_law_count" = true) (k4 : PySem.W.keepIn K (.ref f4) = true)
    (a5 : PySem.W.nsIn K mainGlobals "_law_smooth_lots" = some (some (.ref f5))) (l5 : K.lookup f5 = some ⟨oc5, od5, .func (PySem.W.fnOf "_law_smooth_lots" "_law_smooth_lots" (defArgs s_law_smooth_lots) (defBody s_law_smooth_lots) (defScope s_law_smooth_lots) .none kV5 dc5 pm5 an5 cd5 ct5), sl5⟩) (c5 : PySem.W.codeIn K cd5 "_law_smooth_lots" = true) (k5 : PySem.W.keepIn K (.ref f5) = true)
    (a6 : PySem.W.nsIn K mainGlobals "_law_beside" = some (some (.ref f6))) (l6 : K.lookup f6 = some ⟨oc6, od6, .func (PySem.W.fnOf "_law_beside" "_law_beside" (defArgs s_law_beside) (defBody s_law_beside) (defScope s_law_beside) .none kV6 dc6 pm6 an6 cd6 ct6), sl6⟩) (c6 : PySem.W.codeIn K cd6 "_law_beside" = true) (k6 : PySem.W.keepIn K (.ref f6) = true)
    (a7 : PySem.W.nsIn K mainGlobals "_law_cell" = some (some (.ref f7))) (l7 : K.lookup f7 = some ⟨oc7, od7, .func (PySem.W.fnOf "_law_cell" "_law_cell" (defArgs s_law_cell) (defBody s_law_cell) (defScope s_law_cell) .none kV7 dc7 pm7 an7 cd7 ct7), sl7⟩) (c7 : PySem.W.codeIn K cd7 "_law_cell" = true) (k7 : PySem.W.keepIn K (.ref f7) = true)
    (a8 : PySem.W.nsIn K mainGlobals "_law_offer" = some (some (.ref f8))) (l8 : K.lookup f8 = some ⟨oc8, od8, .func (PySem.W.fnOf "_law_offer" "_law_offer" (defArgs s_law_offer) (defBody s_law_offer) (defScope s_law_offer) .none kV8 dc8 pm8 an8 cd8 ct8), sl8⟩) (c8 : PySem.W.codeIn K cd8 "_law_offer" = true) (k8 : PySem.W.keepIn K (.ref f8) = true)
    (a9 : PySem.W.nsIn K mainGlobals "leave_out" = some (some (.ref f9))) (l9 : K.lookup f9 = some ⟨oc9, od9, .func (PySem.W.fnOf "leave_out" "leave_out" (defArgs s_leave_out) (defBody s_leave_out) (defScope s_leave_out) .none kV9 dc9 pm9 an9 cd9 ct9), sl9⟩) (c9 : PySem.W.codeIn K cd9 "leave_out" = true) (k9 : PySem.W.keepIn K (.ref f9) = true)
    (a10 : PySem.W.nsIn K mainGlobals "fewer_by_one" = some (some (.ref f10))) (l10 : K.lookup f10 = some ⟨oc10, od10, .func (PySem.W.fnOf "fewer_by_one" "fewer_by_one" (defArgs s_fewer_by_one) (defBody s_fewer_by_one) (defScope s_fewer_by_one) .none kV10 dc10 pm10 an10 cd10 ct10), sl10⟩) (c10 : PySem.W.codeIn K cd10 "fewer_by_one" = true) (k10 : PySem.W.keepIn K (.ref f10) = true)
    (a11 : PySem.W.nsIn K mainGlobals "free_sets" = some (some (.ref f11))) (l11 : K.lookup f11 = some ⟨oc11, od11, .func (PySem.W.fnOf "free_sets" "free_sets" (defArgs s_free_sets) (defBody s_free_sets) (defScope s_free_sets) .none kV11 dc11 pm11 an11 cd11 ct11), sl11⟩) (c11 : PySem.W.codeIn K cd11 "free_sets" = true) (k11 : PySem.W.keepIn K (.ref f11) = true)
    (a12 : PySem.W.nsIn K mainGlobals "_circuits_above" = some (some (.ref f12))) (l12 : K.lookup f12 = some ⟨oc12, od12, .func (PySem.W.fnOf "_circuits_above" "_circuits_above" (defArgs s_circuits_above) (defBody s_circuits_above) (defScope s_circuits_above) .none kV12 dc12 pm12 an12 cd12 ct12), sl12⟩) (c12 : PySem.W.codeIn K cd12 "_circuits_above" = true) (k12 : PySem.W.keepIn K (.ref f12) = true)
    (a13 : PySem.W.nsIn K mainGlobals "circuits" = some (some (.ref f13))) (l13 : K.lookup f13 = some ⟨oc13, od13, .func (PySem.W.fnOf "circuits" "circuits" (defArgs s_circuits) (defBody s_circuits) (defScope s_circuits) .none kV13 dc13 pm13 an13 cd13 ct13), sl13⟩) (c13 : PySem.W.codeIn K cd13 "circuits" = true) (k13 : PySem.W.keepIn K (.ref f13) = true)
    (a14 : PySem.W.nsIn K mainGlobals "_things_with" = some (some (.ref f14))) (l14 : K.lookup f14 = some ⟨oc14, od14, .func (PySem.W.fnOf "_things_with" "_things_with" (defArgs s_things_with) (defBody s_things_with) (defScope s_things_with) .none kV14 dc14 pm14 an14 cd14 ct14), sl14⟩) (c14 : PySem.W.codeIn K cd14 "_things_with" = true) (k14 : PySem.W.keepIn K (.ref f14) = true)
    (a15 : PySem.W.nsIn K mainGlobals "pieces" = some (some (.ref f15))) (l15 : K.lookup f15 = some ⟨oc15, od15, .func (PySem.W.fnOf "pieces" "pieces" (defArgs s_pieces) (defBody s_pieces) (defScope s_pieces) .none kV15 dc15 pm15 an15 cd15 ct15), sl15⟩) (c15 : PySem.W.codeIn K cd15 "pieces" = true) (k15 : PySem.W.keepIn K (.ref f15) = true)
    (a16 : PySem.W.nsIn K mainGlobals "_law_is_integer" = some (some (.ref f16))) (l16 : K.lookup f16 = some ⟨oc16, od16, .func (PySem.W.fnOf "_law_is_integer" "_law_is_integer" (defArgs s_law_is_integer) (defBody s_law_is_integer) (defScope s_law_is_integer) .none kV16 dc16 pm16 an16 cd16 ct16), sl16⟩) (c16 : PySem.W.codeIn K cd16 "_law_is_integer" = true) (k16 : PySem.W.keepIn K (.ref f16) = true)
    (a17 : PySem.W.nsIn K mainGlobals "_law_is_set" = some (some (.ref f17))) (l17 : K.lookup f17 = some ⟨oc17, od17, .func (PySem.W.fnOf "_law_is_set" "_law_is_set" (defArgs s_law_is_set) (defBody s_law_is_set) (defScope s_law_is_set) .none kV17 dc17 pm17 an17 cd17 ct17), sl17⟩) (c17 : PySem.W.codeIn K cd17 "_law_is_set" = true) (k17 : PySem.W.keepIn K (.ref f17) = true)
    (a18 : PySem.W.nsIn K mainGlobals "_law_are_pieces" = some (some (.ref f18))) (l18 : K.lookup f18 = some ⟨oc18, od18, .func (PySem.W.fnOf "_law_are_pieces" "_law_are_pieces" (defArgs s_law_are_pieces) (defBody s_law_are_pieces) (defScope s_law_are_pieces) .none kV18 dc18 pm18 an18 cd18 ct18), sl18⟩) (c18 : PySem.W.codeIn K cd18 "_law_are_pieces" = true) (k18 : PySem.W.keepIn K (.ref f18) = true)
    (a19 : PySem.W.nsIn K mainGlobals "_law_within" = some (some (.ref f19))) (l19 : K.lookup f19 = some ⟨oc19, od19, .func (PySem.W.fnOf "_law_within" "_law_within" (defArgs s_law_within) (defBody s_law_within) (defScope s_law_within) .none kV19 dc19 pm19 an19 cd19 ct19), sl19⟩) (c19 : PySem.W.codeIn K cd19 "_law_within" = true) (k19 : PySem.W.keepIn K (.ref f19) = true)
    (a20 : PySem.W.nsIn K mainGlobals "_law_free" = some (some (.ref f20))) (l20 : K.lookup f20 = some ⟨oc20, od20, .func (PySem.W.fnOf "_law_free" "_law_free" (defArgs s_law_free) (defBody s_law_free) (defScope s_law_free) .none kV20 dc20 pm20 an20 cd20 ct20), sl20⟩) (c20 : PySem.W.codeIn K cd20 "_law_free" = true) (k20 : PySem.W.keepIn K (.ref f20) = true)
    (a21 : PySem.W.nsIn K mainGlobals "_law_circuits" = some (some (.ref f21))) (l21 : K.lookup f21 = some ⟨oc21, od21, .func (PySem.W.fnOf "_law_circuits" "_law_circuits" (defArgs s_law_circuits) (defBody s_law_circuits) (defScope s_law_circuits) .none kV21 dc21 pm21 an21 cd21 ct21), sl21⟩) (c21 : PySem.W.codeIn K cd21 "_law_circuits" = true) (k21 : PySem.W.keepIn K (.ref f21) = true)
    (a22 : PySem.W.nsIn K mainGlobals "_law_is_offer" = some (some (.ref f22))) (l22 : K.lookup f22 = some ⟨oc22, od22, .func (PySem.W.fnOf "_law_is_offer" "_law_is_offer" (defArgs s_law_is_offer) (defBody s_law_is_offer) (defScope s_law_is_offer) .none kV22 dc22 pm22 an22 cd22 ct22), sl22⟩) (c22 : PySem.W.codeIn K cd22 "_law_is_offer" = true) (k22 : PySem.W.keepIn K (.ref f22) = true)
    (a23 : PySem.W.nsIn K mainGlobals "_law_part" = some (some (.ref f23))) (l23 : K.lookup f23 = some ⟨oc23, od23, .func (PySem.W.fnOf "_law_part" "_law_part" (defArgs s_law_part) (defBody s_law_part) (defScope s_law_part) .none kV23 dc23 pm23 an23 cd23 ct23), sl23⟩) (c23 : PySem.W.codeIn K cd23 "_law_part" = true) (k23 : PySem.W.keepIn K (.ref f23) = true)
    (a24 : PySem.W.nsIn K mainGlobals "piece_offer" = some (some (.ref f24))) (l24 : K.lookup f24 = some ⟨oc24, od24, .func (PySem.W.fnOf "piece_offer" "piece_offer" (defArgs s_piece_offer) (defBody s_piece_offer) (defScope s_piece_offer) .none kV24 dc24 pm24 an24 cd24 ct24), sl24⟩) (c24 : PySem.W.codeIn K cd24 "piece_offer" = true) (k24 : PySem.W.keepIn K (.ref f24) = true)
    (a25 : PySem.W.nsIn K mainGlobals "_law_tells" = some (some (.ref f25))) (l25 : K.lookup f25 = some ⟨oc25, od25, .func (PySem.W.fnOf "_law_tells" "_law_tells" (defArgs s_law_tells) (defBody s_law_tells) (defScope s_law_tells) .none kV25 dc25 pm25 an25 cd25 ct25), sl25⟩) (c25 : PySem.W.codeIn K cd25 "_law_tells" = true) (k25 : PySem.W.keepIn K (.ref f25) = true)
    (a26 : PySem.W.nsIn K mainGlobals "law" = some (some (.ref f26))) (l26 : K.lookup f26 = some ⟨oc26, od26, .func (PySem.W.fnOf "law" "law" (defArgs s_law) (defBody s_law) (defScope s_law) .none kV26 dc26 pm26 an26 cd26 ct26), sl26⟩) (c26 : PySem.W.codeIn K cd26 "law" = true) (k26 : PySem.W.keepIn K (.ref f26) = true)
    (z_len : PySem.W.nsIn K mainGlobals "len" = some none)
    (z_int : PySem.W.nsIn K mainGlobals "int" = some none)
    (z_bool : PySem.W.nsIn K mainGlobals "bool" = some none)
    (z_abs : PySem.W.nsIn K mainGlobals "abs" = some none)
    (z_tuple : PySem.W.nsIn K mainGlobals "tuple" = some none)
    (z_list : PySem.W.nsIn K mainGlobals "list" = some none)
    (z_sum : PySem.W.nsIn K mainGlobals "sum" = some none)
    (z_max : PySem.W.nsIn K mainGlobals "max" = some none)
    (z_min : PySem.W.nsIn K mainGlobals "min" = some none)
    (z_any : PySem.W.nsIn K mainGlobals "any" = some none)
    (z_all : PySem.W.nsIn K mainGlobals "all" = some none)
    (z_range : PySem.W.nsIn K mainGlobals "range" = some none)
    (z_isinstance : PySem.W.nsIn K mainGlobals "isinstance" = some none)
    (z_sorted : PySem.W.nsIn K mainGlobals "sorted" = some none)
    (z_enumerate : PySem.W.nsIn K mainGlobals "enumerate" = some none)
    (z_zip : PySem.W.nsIn K mainGlobals "zip" = some none)
    (z_set : PySem.W.nsIn K mainGlobals "set" = some none) :
    ∃ fd : FuncData, (∀ (s : Shared) (v : Value), BindsTo s fd ⟨[v], []⟩ [("script", v)]) ∧ ∀ base : Heap, K.In base → base.Ns mainGlobals mg → FnOk l.prog w K mg base (L2N.CX l.prog w) 7 fa fd ["script"] (spD K [] m_law_k36) := by
  have e := hfa.symm.trans (PySem.W.mg_of X G a26)
  cases e
  have B : Bi mg := ⟨PySem.W.mg_none_of X G z_len, PySem.W.mg_none_of X G z_int, PySem.W.mg_none_of X G z_bool, PySem.W.mg_none_of X G z_abs, PySem.W.mg_none_of X G z_tuple, PySem.W.mg_none_of X G z_list, PySem.W.mg_none_of X G z_sum, PySem.W.mg_none_of X G z_max, PySem.W.mg_none_of X G z_min, PySem.W.mg_none_of X G z_any, PySem.W.mg_none_of X G z_all, PySem.W.mg_none_of X G z_range, PySem.W.mg_none_of X G z_isinstance, PySem.W.mg_none_of X G z_sorted, PySem.W.mg_none_of X G z_enumerate, PySem.W.mg_none_of X G z_zip, PySem.W.mg_none_of X G z_set⟩
  have F1 := fun_mk (st := s_law_draws) l1 c1 k1
  have b1 := F1.binds (ps := ["cell", "count"]) fun _ _ _ _ _ _ us hl => match us, hl with | [_, _], _ => rfl
  have F2 := fun_mk (st := s_law_parts_of) l2 c2 k2
  have b2 := F2.binds (ps := ["size"]) fun _ _ _ _ _ _ us hl => match us, hl with | [_], _ => rfl
  have F3 := fun_mk (st := s_law_rest) l3 c3 k3
  have b3 := F3.binds (ps := ["row", "size"]) fun _ _ _ _ _ _ us hl => match us, hl with | [_, _], _ => rfl
  have F4 := fun_mk (st := s_law_count) l4 c4 k4
  have b4 := F4.binds (ps := ["row", "classes", "c"]) fun _ _ _ _ _ _ us hl => match us, hl with | [_, _, _], _ => rfl
  have F5 := fun_mk (st := s_law_smooth_lots) l5 c5 k5
  have b5 := F5.binds (ps := ["cell", "size"]) fun _ _ _ _ _ _ us hl => match us, hl with | [_, _], _ => rfl
  have F6 := fun_mk (st := s_law_beside) l6 c6 k6
  have b6 := F6.binds (ps := ["cell", "first", "second", "low", "size"]) fun _ _ _ _ _ _ us hl => match us, hl with | [_, _, _, _, _], _ => rfl
  have F7 := fun_mk (st := s_law_cell) l7 c7 k7
  have b7 := F7.binds (ps := ["script", "k"]) fun _ _ _ _ _ _ us hl => match us, hl with | [_, _], _ => rfl
  have F8 := fun_mk (st := s_law_offer) l8 c8 k8
  have b8 := F8.binds (ps := ["script"]) fun _ _ _ _ _ _ us hl => match us, hl with | [_], _ => rfl
  have F9 := fun_mk (st := s_leave_out) l9 c9 k9
  have b9 := F9.binds (ps := ["things", "out"]) fun _ _ _ _ _ _ us hl => match us, hl with | [_, _], _ => rfl
  have F10 := fun_mk (st := s_fewer_by_one) l10 c10 k10
  have b10 := F10.binds (ps := ["things"]) fun _ _ _ _ _ _ us hl => match us, hl with | [_], _ => rfl
  have F11 := fun_mk (st := s_free_sets) l11 c11 k11
  have b11 := F11.binds (ps := ["offer"]) fun _ _ _ _ _ _ us hl => match us, hl with | [_], _ => rfl
  have F12 := fun_mk (st := s_circuits_above) l12 c12 k12
  have b12 := F12.binds (ps := ["things", "size", "free"]) fun _ _ _ _ _ _ us hl => match us, hl with | [_, _, _], _ => rfl
  have F13 := fun_mk (st := s_circuits) l13 c13 k13
  have b13 := F13.binds (ps := ["offer"]) fun _ _ _ _ _ _ us hl => match us, hl with | [_], _ => rfl
  have F14 := fun_mk (st := s_things_with) l14 c14 k14
  have b14 := F14.binds (ps := ["thing", "rows"]) fun _ _ _ _ _ _ us hl => match us, hl with | [_, _], _ => rfl
  have F15 := fun_mk (st := s_pieces) l15 c15 k15
  have b15 := F15.binds (ps := ["offer"]) fun _ _ _ _ _ _ us hl => match us, hl with | [_], _ => rfl
  have F16 := fun_mk (st := s_law_is_integer) l16 c16 k16
  have b16 := F16.binds (ps := ["value"]) fun _ _ _ _ _ _ us hl => match us, hl with | [_], _ => rfl
  have F17 := fun_mk (st := s_law_is_set) l17 c17 k17
  have b17 := F17.binds (ps := ["value", "size"]) fun _ _ _ _ _ _ us hl => match us, hl with | [_, _], _ => rfl
  have F18 := fun_mk (st := s_law_are_pieces) l18 c18 k18
  have b18 := F18.binds (ps := ["told", "offer", "rows"]) fun _ _ _ _ _ _ us hl => match us, hl with | [_, _, _], _ => rfl
  have F19 := fun_mk (st := s_law_within) l19 c19 k19
  have b19 := F19.binds (ps := ["inner", "outer"]) fun _ _ _ _ _ _ us hl => match us, hl with | [_, _], _ => rfl
  have F20 := fun_mk (st := s_law_free) l20 c20 k20
  have b20 := F20.binds (ps := ["things", "lots"]) fun _ _ _ _ _ _ us hl => match us, hl with | [_, _], _ => rfl
  have F21 := fun_mk (st := s_law_circuits) l21 c21 k21
  have b21 := F21.binds (ps := ["offer"]) fun _ _ _ _ _ _ us hl => match us, hl with | [_], _ => rfl
  have F22 := fun_mk (st := s_law_is_offer) l22 c22 k22
  have b22 := F22.binds (ps := ["told", "size", "lots"]) fun _ _ _ _ _ _ us hl => match us, hl with | [_, _, _], _ => rfl
  have F23 := fun_mk (st := s_law_part) l23 c23 k23
  have b23 := F23.binds (ps := ["lot", "piece"]) fun _ _ _ _ _ _ us hl => match us, hl with | [_, _], _ => rfl
  have F24 := fun_mk (st := s_piece_offer) l24 c24 k24
  have b24 := F24.binds (ps := ["offer", "things"]) fun _ _ _ _ _ _ us hl => match us, hl with | [_, _], _ => rfl
  have F25 := fun_mk (st := s_law_tells) l25 c25 k25
  have b25 := F25.binds (ps := ["offer"]) fun _ _ _ _ _ _ us hl => match us, hl with | [_], _ => rfl
  have F26 := fun_mk (st := s_law) l26 c26 k26
  refine ⟨PySem.W.fnOf "law" "law" (defArgs s_law) (defBody s_law) (defScope s_law) .none kV26 dc26 pm26 an26 cd26 ct26, fun s v => .of_eq rfl, fun base _ _ => ?_⟩
  have D1 := ok_law_draws (P := l.prog) (w := w) (base := base) (Tb := []) F1 (PySem.W.mg_of X G a1) b1 B
  have D2 := ok_law_parts_of (P := l.prog) (w := w) (base := base) (Tb := []) F2 (PySem.W.mg_of X G a2) b2 B
  have D3 := ok_law_rest (P := l.prog) (w := w) (base := base) (Tb := []) F3 (PySem.W.mg_of X G a3) b3 B
  have D4 := ok_law_count (P := l.prog) (w := w) (base := base) (Tb := []) F4 (PySem.W.mg_of X G a4) b4 B
  have D5 := ok_law_smooth_lots (P := l.prog) (w := w) (base := base) (Tb := []) F5 D1 D2 D3 D4 (PySem.W.mg_of X G a5) b5 B
  have D6 := ok_law_beside (P := l.prog) (w := w) (base := base) (Tb := []) F6 D1 (PySem.W.mg_of X G a6) b6 B
  have D7 := ok_law_cell (P := l.prog) (w := w) (base := base) (Tb := []) F7 (PySem.W.mg_of X G a7) b7 B
  have D8 := ok_law_offer (P := l.prog) (w := w) (base := base) (Tb := []) F8 D1 D5 D6 D7 (PySem.W.mg_of X G a8) b8 B
  have D9 := ok_leave_out (P := l.prog) (w := w) (base := base) (Tb := []) F9 (PySem.W.mg_of X G a9) b9 B
  have D10 := ok_fewer_by_one (P := l.prog) (w := w) (base := base) (Tb := []) F10 D9 (PySem.W.mg_of X G a10) b10 B
  have D11 := ok_free_sets (P := l.prog) (w := w) (base := base) (Tb := []) F11 D10 (PySem.W.mg_of X G a11) b11 B
  have D12 := ok_circuits_above (P := l.prog) (w := w) (base := base) (Tb := []) F12 D10 (PySem.W.mg_of X G a12) b12 B
  have D13 := ok_circuits (P := l.prog) (w := w) (base := base) (Tb := []) F13 D11 D12 (PySem.W.mg_of X G a13) b13 B
  have D14 := ok_things_with (P := l.prog) (w := w) (base := base) (Tb := []) F14 (PySem.W.mg_of X G a14) b14 B
  have D15 := ok_pieces (P := l.prog) (w := w) (base := base) (Tb := []) F15 D13 D14 (PySem.W.mg_of X G a15) b15 B
  have D16 := ok_law_is_integer (P := l.prog) (w := w) (base := base) (Tb := []) F16 (PySem.W.mg_of X G a16) b16 B
  have D17 := ok_law_is_set (P := l.prog) (w := w) (base := base) (Tb := []) F17 D16 (PySem.W.mg_of X G a17) b17 B
  have D18 := ok_law_are_pieces (P := l.prog) (w := w) (base := base) (Tb := []) F18 D17 (PySem.W.mg_of X G a18) b18 B
  have D19 := ok_law_within (P := l.prog) (w := w) (base := base) (Tb := []) F19 (PySem.W.mg_of X G a19) b19 B
  have D20 := ok_law_free (P := l.prog) (w := w) (base := base) (Tb := []) F20 D19 (PySem.W.mg_of X G a20) b20 B
  have D21 := ok_law_circuits (P := l.prog) (w := w) (base := base) (Tb := []) F21 D2 D20 D19 (PySem.W.mg_of X G a21) b21 B
  have D22 := ok_law_is_offer (P := l.prog) (w := w) (base := base) (Tb := []) F22 D16 D17 (PySem.W.mg_of X G a22) b22 B
  have D23 := ok_law_part (P := l.prog) (w := w) (base := base) (Tb := []) F23 (PySem.W.mg_of X G a23) b23 B
  have D24 := ok_piece_offer (P := l.prog) (w := w) (base := base) (Tb := []) F24 (PySem.W.mg_of X G a24) b24 B
  have D25 := ok_law_tells (P := l.prog) (w := w) (base := base) (Tb := []) F25 D15 D18 D21 D22 D23 D24 (PySem.W.mg_of X G a25) b25 B
  exact okF_law F26 D8 D25 B
end LW
open PySem PySem.W PyProof.Rows
set_option maxHeartbeats 0 in
theorem PySem.Challenge.cw_takersrest_k36_whole_pieces_holds : PySem.Challenge.rw_takersrest_k36_whole_pieces.Holds := by
  w_on; o_law; k_head; (case hw => w_witness2)
  k_fill
  refine L2.walk_of (l := PySem.Challenge.rw_takersrest_k36_whole_pieces) (n := 63) (k := 7) (x := "script") (CX := fun w => L2N.CX PySem.Challenge.rw_takersrest_k36_whole_pieces.prog w) (sp := fun w => PD.spD _ [] LW.m_law_k36) rfl (by decide) rfl ⟨rfl, by decide, by decide⟩ (fun w h Y => by first | exact PySem.W.kIn_of Y | exact PySem.W.km_in_of Y) ?F (fun _ _ a ns hl hH hS => PD.spD_law0 LW.main_k36 hl hS) PD.cx_no
  case F =>
    intro w mg fa h KX G hmg
    refine' LW.all_mk KX G hmg ?a1 ?l1 ?c1 ?k1 ?a2 ?l2 ?c2 ?k2 ?a3 ?l3 ?c3 ?k3 ?a4 ?l4 ?c4 ?k4 ?a5 ?l5 ?c5 ?k5 ?a6 ?l6 ?c6 ?k6 ?a7 ?l7 ?c7 ?k7 ?a8 ?l8 ?c8 ?k8 ?a9 ?l9 ?c9 ?k9 ?a10 ?l10 ?c10 ?k10 ?a11 ?l11 ?c11 ?k11 ?a12 ?l12 ?c12 ?k12 ?a13 ?l13 ?c13 ?k13 ?a14 ?l14 ?c14 ?k14 ?a15 ?l15 ?c15 ?k15 ?a16 ?l16 ?c16 ?k16 ?a17 ?l17 ?c17 ?k17 ?a18 ?l18 ?c18 ?k18 ?a19 ?l19 ?c19 ?k19 ?a20 ?l20 ?c20 ?k20 ?a21 ?l21 ?c21 ?k21 ?a22 ?l22 ?c22 ?k22 ?a23 ?l23 ?c23 ?k23 ?a24 ?l24 ?c24 ?k24 ?a25 ?l25 ?c25 ?k25 ?a26 ?l26 ?c26 ?k26 ?z_len ?z_int ?z_bool ?z_abs ?z_tuple ?z_list ?z_sum ?z_max ?z_min ?z_any ?z_all ?z_range ?z_isinstance ?z_sorted ?z_enumerate ?z_zip ?z_set
    (case a1 => k_is); (case l1 => k_is); (case c1 => k_is); (case k1 => k_is); (case a2 => k_is); (case l2 => k_is); (case c2 => k_is); (case k2 => k_is); (case a3 => k_is); (case l3 => k_is); (case c3 => k_is); (case k3 => k_is); (case a4 => k_is); (case l4 => k_is); (case c4 => k_is); (case k4 => k_is); (case a5 => k_is); (case l5 => k_is); (case c5 => k_is); (case k5 => k_is); (case a6 => k_is); (case l6 => k_is); (case c6 => k_is); (case k6 => k_is); (case a7 => k_is); (case l7 => k_is); (case c7 => k_is); (case k7 => k_is); (case a8 => k_is); (case l8 => k_is); (case c8 => k_is); (case k8 => k_is); (case a9 => k_is); (case l9 => k_is); (case c9 => k_is); (case k9 => k_is); (case a10 => k_is); (case l10 => k_is); (case c10 => k_is); (case k10 => k_is); (case a11 => k_is); (case l11 => k_is); (case c11 => k_is); (case k11 => k_is); (case a12 => k_is); (case l12 => k_is); (case c12 => k_is); (case k12 => k_is); (case a13 => k_is); (case l13 => k_is); (case c13 => k_is); (case k13 => k_is); (case a14 => k_is); (case l14 => k_is); (case c14 => k_is); (case k14 => k_is); (case a15 => k_is); (case l15 => k_is); (case c15 => k_is); (case k15 => k_is); (case a16 => k_is); (case l16 => k_is); (case c16 => k_is); (case k16 => k_is); (case a17 => k_is); (case l17 => k_is); (case c17 => k_is); (case k17 => k_is); (case a18 => k_is); (case l18 => k_is); (case c18 => k_is); (case k18 => k_is); (case a19 => k_is); (case l19 => k_is); (case c19 => k_is); (case k19 => k_is); (case a20 => k_is); (case l20 => k_is); (case c20 => k_is); (case k20 => k_is); (case a21 => k_is); (case l21 => k_is); (case c21 => k_is); (case k21 => k_is); (case a22 => k_is); (case l22 => k_is); (case c22 => k_is); (case k22 => k_is); (case a23 => k_is); (case l23 => k_is); (case c23 => k_is); (case k23 => k_is); (case a24 => k_is); (case l24 => k_is); (case c24 => k_is); (case k24 => k_is); (case a25 => k_is); (case l25 => k_is); (case c25 => k_is); (case k25 => k_is); (case a26 => k_is); (case l26 => k_is); (case c26 => k_is); (case k26 => k_is); (case z_len => k_is); (case z_int => k_is); (case z_bool => k_is); (case z_abs => k_is); (case z_tuple => k_is); (case z_list => k_is); (case z_sum => k_is); (case z_max => k_is); (case z_min => k_is); (case z_any => k_is); (case z_all => k_is); (case z_range => k_is); (case z_isinstance => k_is); (case z_sorted => k_is); (case z_enumerate => k_is); (case z_zip => k_is); (case z_set => k_is)
