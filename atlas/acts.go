package atlas

import "aneroid/api"

// notes are the commands by which a clerk writes down a note. All of them begin with the clerk and the day.
func (k *console) notes() map[string]order {
	return map[string]order{
		"sheet":   {args: 4, does: k.noteSheet},
		"mark":    k.noting(7, func(a []int) api.Note { return markNote(api.NoteMark, a) }),
		"fixmark": k.noting(7, func(a []int) api.Note { return markNote(api.NoteCorrect, a) }),
		"read":    k.noting(7, func(a []int) api.Note { return api.Note{Kind: api.NoteRead, Read: readOf(a)} }),
		"fixread": k.noting(9, func(a []int) api.Note {
			return api.Note{Kind: api.NoteCorrect, Ref: nameOf(a), Read: readOf(a[2:])}
		}),
		"moved": k.noting(6, func(a []int) api.Note {
			return api.Note{Kind: api.NoteHeight, Station: a[0], Height: api.Height{Week: a[1], Metres: spanOf(a[2:])}}
		}),
		"file": k.noting(6, func(a []int) api.Note {
			return api.Note{Kind: api.NoteFile, Ref: nameOf(a), Station: a[2], Week: a[3]}
		}),
		"undo": k.noting(4, func(a []int) api.Note { return api.Note{Kind: api.NoteWithdraw, Ref: nameOf(a)} }),
	}
}

// noting returns the order to write down what noteOf makes of the numbers behind the day.
func (k *console) noting(args int, noteOf func(a []int) api.Note) order {
	return order{args: args, does: func(a []int) ([]int, api.Errno) { return k.note(a, noteOf(a[2:])) }}
}

// note lets a clerk write down a note, and returns its number.
func (k *console) note(a []int, n api.Note) ([]int, api.Errno) {
	clerk := a[0]
	n.Day = a[1]
	if e := k.world.Step(api.Act{Kind: api.ActDo, Clerk: clerk, Note: n}); e != api.OK {
		return nil, e
	}
	all, e := k.world.Notes(clerk)
	num := 0
	for _, n := range all {
		if n.Clerk == clerk {
			num = max(num, n.Num)
		}
	}
	return []int{num}, e
}

func (k *console) noteSheet(a []int) ([]int, api.Errno) {
	num, e := k.note(a, api.Note{Kind: api.NoteSheet, Station: a[2], Week: a[3], Sheet: k.draft})
	if e == api.OK {
		k.draft = api.Sheet{}
	}
	return num, e
}

func nameOf(a []int) api.Name { return api.Name{Clerk: a[0], Num: a[1]} }

func markNote(kind int, a []int) api.Note {
	return api.Note{Kind: kind, Ref: nameOf(a), Mark: api.Mark{Column: a[2], Ticks: spanOf(a[3:])}}
}

func readOf(a []int) api.Read {
	return api.Read{Station: a[0], Week: a[1], Tick: a[2], Levels: spanOf(a[3:])}
}

// acts are the commands by which something else happens in the world.
func (k *console) acts() map[string]order {
	crash := k.acting(1, func(a []int) api.Act { return api.Act{Kind: api.ActCrash, Clerk: a[0], Fates: a[1:]} })
	crash.more = true
	return map[string]order{
		"sync":    k.acting(1, func(a []int) api.Act { return api.Act{Kind: api.ActSync, Clerk: a[0]} }),
		"send":    k.acting(2, func(a []int) api.Act { return api.Act{Kind: api.ActSend, Clerk: a[0], To: a[1]} }),
		"deliver": k.acting(1, func(a []int) api.Act { return api.Act{Kind: api.ActDeliver, Index: a[0]} }),
		"lose":    k.acting(1, func(a []int) api.Act { return api.Act{Kind: api.ActLose, Index: a[0]} }),
		"double":  k.acting(1, func(a []int) api.Act { return api.Act{Kind: api.ActDouble, Index: a[0]} }),
		"spoil": k.acting(3, func(a []int) api.Act {
			return api.Act{Kind: api.ActSpoil, Clerk: a[0], To: a[1], Index: a[2]}
		}),
		"crash":  crash,
		"settle": {does: func([]int) ([]int, api.Errno) { return nil, k.world.Settle() }},
	}
}

// acting returns the order to let happen what actOf makes of the numbers.
func (k *console) acting(args int, actOf func(a []int) api.Act) order {
	return order{args: args, does: func(a []int) ([]int, api.Errno) { return nil, k.world.Step(actOf(a)) }}
}
