package boot

import (
	"keystone/api"
	"keystone/manifest"
	"keystone/signature"
)

// look is what the first core does ahead of the others: it gives the manifest
// in flash, if that can be read, was signed, and is not older than the fuse.
func look(flash []byte, key string, fuse int, faults []int) (api.Manifest, api.Errno) {
	m, size, ok := locate(flash)
	if !ok {
		return api.Manifest{}, api.ErrManifest
	}
	end := size + api.SignSize
	if isFaulty(faults, 0, end) {
		return api.Manifest{}, api.ErrRead
	}
	if !signature.Verify(key, flash[:size], string(flash[size:end])) {
		return api.Manifest{}, api.ErrSign
	}
	if m.Version < fuse {
		return api.Manifest{}, api.ErrOld
	}
	return m, api.OK
}

// locate finds the manifest with which flash begins, and how many bytes it has,
// if flash is none too great and has room for a signature behind it.
func locate(flash []byte) (api.Manifest, int, bool) {
	if len(flash) > api.MaxFlash {
		return api.Manifest{}, 0, false
	}
	m, size, err := manifest.Unpack(flash)
	return m, size, err == api.OK && len(flash) >= size+api.SignSize
}
