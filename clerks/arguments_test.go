package clerks_test

import (
	"fmt"
	"reflect"
	"slices"
	"testing"

	"aneroid/api"
	"aneroid/clerks"
)

// TestNilAndZeroPairs is for pairs that NewPair did not make.
func TestNilAndZeroPairs(t *testing.T) {
	for _, p := range []*clerks.Pair{nil, {}} {
		expectErrno(t, p.Write(0, 0, filled(1)), api.ErrArg)
		l, e := p.Read(0, 0)
		expectError(t, l, e, api.ErrArg)
		expectErrno(t, p.Spoil(0, 0), api.ErrArg)
		expectErrno(t, p.Fuse(0, 0), api.ErrArg)
		p.Up()
		if p.Down() || p.Writes() != 0 || clerks.NewStore(p) != nil {
			t.Error(p)
		}
	}
}

func TestNilAndZeroStores(t *testing.T) {
	for _, s := range []*clerks.Store{nil, {}} {
		expectErrno(t, s.Put(0, filled(1)), api.ErrArg)
		b, e := s.Get(0)
		expectError(t, b, e, api.ErrArg)
		expectErrno(t, s.Recover(), api.ErrArg)
		expectErrno(t, s.Append([]byte{1}), api.ErrArg)
		l, e := s.Records()
		expectError(t, l, e, api.ErrArg)
	}
}

func TestNilAndZeroClerks(t *testing.T) {
	for _, c := range []*clerks.Clerk{nil, {}} {
		n, e := c.Do(read(1))
		expectError(t, n, e, api.ErrArg)
		expectErrno(t, c.Sync(), api.ErrArg)
		expect(t, c.Notes(), api.OK, nil)
		expect(t, c.Counts(), api.OK, nil)
		expect(t, c.Waits(), api.OK, 0)
		expect(t, c.Believes(1), api.OK, nil)
		expect(t, c.Lacks(nil), api.OK, nil)
		added, e := c.Hear(reads(1, 1))
		expectError(t, added, e, api.ErrArg)
		added, e = c.Hear([]api.Note{{}})
		expectError(t, added, e, api.ErrArg)
		expectErrno(t, c.Crash(nil), api.ErrArg)
	}
}

func TestNilAndZeroWorlds(t *testing.T) {
	for _, w := range []*clerks.World{nil, {}} {
		for kind := range 10 {
			expectErrno(t, w.Step(api.Act{Kind: kind, Clerk: 1, To: 2, Note: read(1)}), api.ErrArg)
		}
		expectErrno(t, w.Settle(), api.ErrArg)
		for clerk := range 3 {
			l, e := w.Notes(clerk)
			expectError(t, l, e, api.ErrArg)
		}
		expect(t, w.Mails(), api.OK, nil)
	}
}

// spoilAll changes each element of all slices of a value, and of what is behind their ends.
func spoilAll(v reflect.Value) {
	switch v.Kind() {
	case reflect.Struct:
		for i := range v.NumField() {
			spoilAll(v.Field(i))
		}
	case reflect.Slice:
		for i := range v.Len() {
			spoilAll(v.Index(i))
		}
		v = v.Slice(0, v.Cap())
		for i := range v.Len() {
			v.Index(i).SetZero()
		}
	}
}

// expectOwn checks that what a call told is not changed by others changing results or arguments of it.
func expectOwn(t *testing.T, what string, told func() string, values ...any) {
	t.Helper()
	before := told()
	for _, v := range values {
		spoilAll(reflect.ValueOf(v))
		if told() != before {
			t.Errorf("%s: what is kept is changed by others: %T", what, v)
		}
	}
}

// TestKeepsNothing changes arguments and results of all functions behind their calls.
func TestKeepsNothing(t *testing.T) {
	charts := note(0, api.NoteSheet, charted(sheet(3)), under(5, 1))
	b := base()
	c := must(clerks.NewClerk(b, 1))
	notes := func() string { return fmt.Sprint(c.Notes(), c.Counts(), c.Believes(2), c.Lacks(nil), c.Waits()) }
	argument := charts
	result := must(c.Do(argument))
	expectOwn(t, "Do", func() string { return fmt.Sprint(result) }, argument)
	expectOwn(t, "Do", notes, result)
	heard := []api.Note{note(1, api.NoteSheet, by(2), charted(sheet(3)), under(5, 2))}
	must(c.Hear(heard))
	expectOwn(t, "Hear", notes, heard)
	expectOwn(t, "of a clerk", notes, c.Notes(), c.Counts(), c.Believes(2), c.Lacks(nil))
	spoilAll(reflect.ValueOf(b))
	if _, e := c.Do(read(1)); e != api.OK {
		t.Error("a clerk keeps the base that it was given", e)
	}

	b = base()
	w := must(clerks.NewWorld(b, 2))
	spoilAll(reflect.ValueOf(b))
	act := does(1, note(0, api.NoteSheet, charted(sheet(3)), under(5, 1)))
	happen(t, w, act, sends(1, 2), doubles(0))
	all := func() string { return fmt.Sprint(must(w.Notes(1)), must(w.Notes(2)), w.Mails()) }
	expectOwn(t, "Step", all, act)
	expectOwn(t, "of a world", all, must(w.Notes(1)), w.Mails())
	happen(t, w, delivers(0))
	expectOwn(t, "Believes", func() string { return fmt.Sprint(w.ClerkOf(2).Believes(1)) }, w.ClerkOf(2).Believes(1))
	happen(t, w, crashes(2, 100))
	expectErrno(t, w.Settle(), api.OK)
	expectOwn(t, "Settle", all, must(w.Notes(2)), must(w.Notes(1)))
}

// TestBytesAreOwn does the same with what is written and read.
func TestBytesAreOwn(t *testing.T) {
	p, s := newStore()
	block := filled(3)
	s.Put(1, block)
	told := func() string {
		x, _ := p.Read(0, 1)
		y, _ := s.Get(1)
		return fmt.Sprint(x, y)
	}
	expectOwn(t, "Put", told, block)
	block = filled(4)
	p.Write(0, 1, block)
	expectOwn(t, "Write", told, block, must(p.Read(0, 1)), must(s.Get(1)))

	_, s = newStore()
	l := record(100, 1)
	expectErrno(t, s.Append(l), api.OK)
	records := func() string { return fmt.Sprint(must(s.Records())) }
	expectOwn(t, "Append", records, l, must(s.Records()))

	l = record(200, 1)
	list := must(clerks.Blocks(l))
	for i := range list {
		// No block has room in which another one lies.
		if cap(list[i]) != 64 {
			t.Error(i, cap(list[i]))
		}
	}
	back, _, e := clerks.Record(list)
	expectErrno(t, e, api.OK)
	expectOwn(t, "Blocks", func() string { return fmt.Sprint(back) }, list)
	list = must(clerks.Blocks(l))
	expectOwn(t, "Record", func() string { return fmt.Sprint(list) }, l, back)

	n := note(1, api.NoteSheet, charted(sheet(3)), under(5, 1))
	code := bytesOf(n)
	decoded := must(clerks.Decode(base(), code))
	expectOwn(t, "Decode", func() string { return fmt.Sprint(decoded) }, code)
	code = bytesOf(n)
	expectOwn(t, "Encode", func() string { return fmt.Sprint(code) }, n, decoded)
}

// TestArgumentsStay checks that calls change no argument, although there is room behind the ends of lists.
func TestArgumentsStay(t *testing.T) {
	roomy := func(l []api.Note) []api.Note { return slices.Grow(l, 9) }
	l := roomy(slices.Concat(reads(2, 3), kinds()[:1]))
	fates, counts := slices.Grow([]int{3, 1, 0}, 5), slices.Grow([]int{1, 0}, 9)
	code := slices.Grow(bytesOf(l[3]), 70)
	blocks := slices.Grow(must(clerks.Blocks(code)), 3)
	b := base()
	told := func() string {
		return fmt.Sprint(b, l[:cap(l)], fates[:cap(fates)], counts[:cap(counts)], code[:cap(code)], blocks[:cap(blocks)])
	}
	before := told()
	c := must(clerks.NewClerk(b, 1))
	must(c.Do(l[3]))
	must(c.Hear(l[:3]))
	c.Lacks(counts)
	expectErrno(t, c.Crash(fates), api.OK)
	must(clerks.Encode(b, l[3]))
	must(clerks.Decode(b, code))
	must(clerks.Blocks(code))
	clerks.Record(blocks)
	_, s := newStore()
	s.Append(code)
	s.Put(3, blocks[0])
	w := must(clerks.NewWorld(b, 2))
	happen(t, w, does(1, l[3]), crashes(1, fates...), sends(1, 2), delivers(0))
	if told() != before {
		t.Error("an argument is changed")
	}
}
