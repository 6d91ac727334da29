// Package boot: the boot itself: the first core's look at the manifest, the
// cores behind it, and whether they start.
package boot

import (
	"keystone/api"
	"keystone/digest"
)

// Where the power may be cut; any other number is no cut.
const (
	cutAheadOfFuse = 1
	cutBehindFuse  = 2
)

// noughts is what the register begins as.
const noughts = "\x00\x00\x00\x00\x00\x00\x00\x00"

// kindRegister tells the register's digests from all others.
const kindRegister = 5

// Boot boots, or does not. The report is filled in the order in which things
// come about, so that whatever stops the boot leaves it as it then is.
func Boot(flash []byte, key string, fuse int, faults []int, cut int) api.Report {
	r := api.Report{Register: noughts, Fuse: fuse}
	m, err := look(flash, key, fuse, faults)
	if err != api.OK {
		r.Err = err
		return r
	}
	b := newBoard(flash, faults, m.Parts)
	r.Codes = b.run()
	r.Log = b.entries()
	r.Register = register(r.Log)
	if r.Err = firstError(r.Codes); r.Err != api.OK {
		return r
	}
	if cut == cutAheadOfFuse {
		r.Err = api.ErrCut
		return r
	}
	r.Fuse = max(fuse, m.Version)
	if cut == cutBehindFuse {
		r.Err = api.ErrCut
		return r
	}
	r.Starts = b.starts()
	return r
}

// register folds the log into one digest, which shows its order too.
func register(log []api.Entry) string {
	r := noughts
	for _, e := range log {
		r = digest.Begin(kindRegister, byte(e.Core)).Text(r).Text(e.Digest).End()
	}
	return r
}

func firstError(codes []api.Errno) api.Errno {
	for _, code := range codes {
		if code != api.OK {
			return code
		}
	}
	return api.OK
}
