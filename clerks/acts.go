package clerks

import (
	"slices"

	"aneroid/api"
)

// The following acts have a clerk, or a message, that there is.

func (w *World) do(a api.Act) api.Errno {
	_, e := w.clerk(a.Clerk).Do(a.Note)
	return e
}

func (w *World) sync(a api.Act) api.Errno { return w.clerk(a.Clerk).Sync() }

func (w *World) crash(a api.Act) api.Errno { return w.clerk(a.Clerk).Crash(a.Fates) }

func (w *World) spoil(a api.Act) api.Errno {
	if !isPlace(a.To, a.Index) {
		return api.ErrArg
	}
	return w.clerk(a.Clerk).store.spoil(a.To, a.Index)
}

func (w *World) send(a api.Act) api.Errno {
	if !w.has(a.To) || a.To == a.Clerk {
		return api.ErrArg
	}
	from := w.clerk(a.Clerk)
	// What is told must outlast each crash, so it is in the store first.
	if e := from.Sync(); e != api.OK {
		return e
	}
	return w.post(api.Mail{From: a.Clerk, To: a.To, Body: from.letterTo(a.To)})
}

func (w *World) deliver(a api.Act) api.Errno {
	m := w.take(a.Index)
	return w.clerk(m.To).receive(m.From, m.Body)
}

func (w *World) lose(a api.Act) api.Errno {
	w.take(a.Index)
	return api.OK
}

func (w *World) double(a api.Act) api.Errno { return w.post(w.mails[a.Index]) }

// post puts a message behind all others.
func (w *World) post(m api.Mail) api.Errno {
	if len(w.mails) >= api.MaxMail {
		return api.ErrLimit
	}
	w.mails = append(w.mails, m)
	return api.OK
}

// take takes a message out.
func (w *World) take(i int) api.Mail {
	m := w.mails[i]
	w.mails = slices.Delete(w.mails, i, i+1)
	return m
}
