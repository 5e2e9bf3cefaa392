package clerks_test

import (
	"bytes"
	"slices"
	"testing"

	"aneroid/api"
	"aneroid/clerks"
)

func TestBlocks(t *testing.T) {
	list, e := clerks.Blocks([]byte{7})
	expect(t, list, e, [][]byte{append([]byte{1, 1, 7}, make([]byte, 61)...)})
	l := record(63, 1)
	list, e = clerks.Blocks(l)
	expect(t, list, e, [][]byte{
		append([]byte{62, 0}, l[:62]...),
		append([]byte{1, 1, l[62]}, make([]byte, 61)...),
	})
	list, e = clerks.Blocks(l[:62])
	expect(t, list, e, [][]byte{append([]byte{62, 1}, l[:62]...)})
	for _, length := range []int{0, 30001, 40000} {
		list, e := clerks.Blocks(record(length, 0))
		expectError(t, list, e, api.ErrArg)
	}
}

// TestRecord is P9.2 for records: whatever comes behind their blocks, they are read.
func TestRecord(t *testing.T) {
	for length := 1; length <= 30000; length = max(length+1, length*5/4) {
		expectRecord(t, length)
	}
	for _, length := range []int{61, 62, 63, 123, 124, 125, 186, 29946, 29947, 30000} {
		expectRecord(t, length)
	}
}

func expectRecord(t *testing.T, length int) {
	t.Helper()
	l := record(length, length)
	list, e := clerks.Blocks(l)
	expectErrno(t, e, api.OK)
	if len(list) != (length+61)/62 {
		t.Error(length, len(list))
	}
	for _, rest := range [][][]byte{nil, {nil}, {filled(0)}, {filled(9), {1}}, list} {
		back, used, e := clerks.Record(slices.Concat(list, rest))
		expect(t, back, e, l)
		expect(t, used, e, len(list))
	}
	back, used, e := clerks.Record(list[:len(list)-1])
	expectError(t, back, e, api.ErrCode)
	expectError(t, used, e, api.ErrCode)
}

// TestOtherBlocks changes each byte of the blocks of records: they are no record then, or the one whose blocks they are.
func TestOtherBlocks(t *testing.T) {
	others := 0
	for _, length := range []int{1, 61, 62, 63, 130} {
		list, _ := clerks.Blocks(record(length, 3))
		for i := range list {
			for j := range list[i] {
				for _, x := range []byte{0, 1, 2, 61, 62, 63, 255} {
					old := list[i][j]
					list[i][j] = x
					l, used, e := clerks.Record(list)
					if e == api.OK {
						back, e := clerks.Blocks(l)
						expect(t, back, e, list[:used])
						others++
					} else {
						expectError(t, l, e, api.ErrCode)
						expectError(t, used, e, api.ErrCode)
					}
					list[i][j] = old
				}
			}
		}
	}
	enough(t, others, 500)
}

func TestNoRecord(t *testing.T) {
	one := must(clerks.Blocks([]byte{7}))[0]
	full := must(clerks.Blocks(record(63, 0)))[0]
	with := func(b []byte, at int, x byte) []byte {
		b = bytes.Clone(b)
		b[at] = x
		return b
	}
	for i, list := range [][][]byte{
		nil,
		{nil},
		{one[:63]},
		{append(bytes.Clone(one), 0)},
		{filled(0)},
		{with(one, 0, 0)},       // no content
		{with(one, 0, 63)},      // too much
		{with(one, 1, 0), one},  // not the last one, but with room
		{with(one, 1, 2)},       // neither
		{with(full, 1, 2), one}, // neither
		{with(one, 63, 1)},      // something behind the content
		{full},                  // no last one
		{full, nil},             //
		{full, one[:10]},        //
		{full, with(one, 0, 0)}, //
		{full, full, with(one, 2, 1)[:2]},
	} {
		l, used, e := clerks.Record(list)
		if e != api.ErrCode || l != nil || used != 0 {
			t.Error(i, l, used, e)
		}
	}
}

// TestLongestRecord reads blocks of as many bytes as a record may have, and of more.
func TestLongestRecord(t *testing.T) {
	full := must(clerks.Blocks(record(63, 0)))[0]
	list := slices.Repeat([][]byte{full}, 483)
	for _, last := range []int{54, 55} {
		l, used, e := clerks.Record(append(list, must(clerks.Blocks(record(last, 0)))[0]))
		if last == 54 && (e != api.OK || len(l) != 30000 || used != 484) || last == 55 && (e != api.ErrCode || l != nil || used != 0) {
			t.Error(last, len(l), used, e)
		}
	}
	l, used, e := clerks.Record(slices.Repeat(list, 100))
	if e != api.ErrCode || l != nil || used != 0 {
		t.Error(len(l), used, e)
	}
}
