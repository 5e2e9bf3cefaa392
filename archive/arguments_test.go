package archive_test

import (
	"fmt"
	"reflect"
	"testing"

	"aneroid/api"
	"aneroid/archive"
)

// A call is a function of the chapter with a base. Its other arguments are such that it returns an error of its rule, unless one comes ahead of it.
type call struct {
	name string
	do   func(b api.Base, l []api.Note) (zero bool, e api.Errno)
	sets bool // its lists must be sets
}

func result[T any](value T, e api.Errno) (bool, api.Errno) {
	var zero T
	return same(value, zero), e
}

func calls() []call {
	forked := example()
	forked[0].Day++
	return []call{
		{"CheckNote", func(b api.Base, l []api.Note) (bool, api.Errno) { return true, archive.CheckNote(b, api.Note{}) }, false},
		{"CheckSet", func(b api.Base, l []api.Note) (bool, api.Errno) {
			e, at := archive.CheckSet(b, make([]api.Note, 9))
			return at == 0, e
		}, false},
		{"Merge", func(b api.Base, l []api.Note) (bool, api.Errno) { return result(archive.Merge(b, l, forked)) }, true},
		{"Merge", func(b api.Base, l []api.Note) (bool, api.Errno) { return result(archive.Merge(b, forked, l)) }, true},
		{"Fork", func(b api.Base, l []api.Note) (bool, api.Errno) { return result(archive.Fork(b, l, forked)) }, true},
		{"Fork", func(b api.Base, l []api.Note) (bool, api.Errno) { return result(archive.Fork(b, forked, l)) }, true},
		{"Stands", func(b api.Base, l []api.Note) (bool, api.Errno) { return result(archive.Stands(b, l)) }, true},
		{"Fold", func(b api.Base, l []api.Note) (bool, api.Errno) { return result(archive.Fold(b, l)) }, true},
		{"AsOf", func(b api.Base, l []api.Note) (bool, api.Errno) { return result(archive.AsOf(b, l, -1, -1)) }, true},
		{"Chain", func(b api.Base, l []api.Note) (bool, api.Errno) { return result(archive.Chain(b, l, api.Name{})) }, true},
		{"StationOf", func(b api.Base, l []api.Note) (bool, api.Errno) {
			return result(archive.StationOf(b, api.Register{}, 0))
		}, false},
		{"WeekOf", func(b api.Base, l []api.Note) (bool, api.Errno) {
			return result(archive.WeekOf(b, api.Register{}, -1))
		}, false},
	}
}

// TestErrorsInOrder checks that ErrBase comes first, then ErrArg for lists that are no sets, with zero values.
func TestErrorsInOrder(t *testing.T) {
	noSets := [][]api.Note{
		make([]api.Note, 1),
		readsOf(401),
		append(example(), example()[4]),
		append(example(), example()[0]),
		append(example(), note(1, 6, 0, api.NoteWithdraw)),
	}
	for _, c := range calls() {
		for i, b := range badBases() {
			for _, l := range append(noSets, example()) {
				if zero, e := c.do(b, l); !zero || e != api.ErrBase {
					t.Error(c.name, i, zero, e)
				}
			}
		}
		for i, l := range noSets {
			if zero, e := c.do(base(), l); c.sets && (!zero || e != api.ErrArg) {
				t.Error(c.name, i, zero, e)
			}
		}
	}
}

// parts collects where the elements of all slices of a value lie in memory.
func parts(v reflect.Value, found map[string]int) {
	switch v.Kind() {
	case reflect.Struct:
		for i := range v.NumField() {
			parts(v.Field(i), found)
		}
	case reflect.Slice:
		for i := range v.Len() {
			found[fmt.Sprint(v.Index(i).Addr().Pointer(), v.Type())]++
			parts(v.Index(i), found)
		}
	}
}

// expectNew checks that a result shares no memory with arguments, nor one of its slices with another one.
func expectNew(t *testing.T, result any, arguments ...any) {
	t.Helper()
	mine := map[string]int{}
	parts(reflect.ValueOf(result), mine)
	for at, times := range mine {
		if times > 1 {
			t.Errorf("%T: a slice shares %s with another one", result, at)
		}
	}
	for _, a := range arguments {
		others := map[string]int{}
		parts(reflect.ValueOf(a), others)
		for at := range others {
			if mine[at] > 0 {
				t.Errorf("%T shares %s with an argument", result, at)
			}
		}
	}
}

// TestMemory checks that results are new memory, and that arguments stay as they are, although the capacity of their lists has room.
func TestMemory(t *testing.T) {
	x := newDice(2)
	for range 100 {
		b, l, r := base(), x.set(18), loose()
		full := must(archive.Fold(b, l))
		before := fmt.Sprint(b, l, r, full)
		expectNew(t, full, b, l)
		expectNew(t, must(archive.AsOf(b, l, 2, 2)), b, l)
		half := l[:len(l)/2]
		expectNew(t, must(archive.Merge(b, half, l)), half, l)
		expectNew(t, must(archive.Stands(b, l)), l)
		for _, reg := range []api.Register{r, full} {
			expectNew(t, must(archive.WeekOf(b, reg, 1)), b, reg)
			expectNew(t, must(archive.WeekOf(b, reg, 3)), b, reg)
			expectNew(t, must(archive.StationOf(b, reg, 5)), b, reg)
			expectNew(t, must(archive.StationOf(b, reg, 9)), b, reg)
			must(archive.Weeks(reg))
			must(archive.ReadsOf(reg, 5, 3))
		}
		for _, n := range l {
			archive.Chain(b, l, nameOf(n))
			archive.Fork(b, half, l)
		}
		if fmt.Sprint(b, l, r, full) != before {
			t.Fatal("an argument is changed")
		}
	}
}

// TestLargest folds as many notes as there may be, with the longest traces.
func TestLargest(t *testing.T) {
	b, s := base(), sheet(200)
	s.Trace = make([]api.Point, api.MaxPoints)
	var l []api.Note
	for i := range api.MaxNotes {
		l = append(l, note(8, 1+i, 10000, api.NoteSheet, charted(s), under(5, i), at(1<<40)))
	}
	r, e := archive.Fold(b, l)
	if e != api.OK || len(r.Sheets) != api.MaxNotes || len(r.Conflicts) != 0 {
		t.Error(e, len(r.Sheets))
	}
	merged, e := archive.Merge(b, l, l)
	if e != api.OK || len(merged) != api.MaxNotes {
		t.Error(e, len(merged))
	}
}
