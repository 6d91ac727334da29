// Package keystone: a boot chain: see DOC.md.
package keystone

import (
	"keystone/api"
	"keystone/boot"
	"keystone/digest"
	"keystone/manifest"
	"keystone/signature"
)

// Digest of bytes (P3).
func Digest(b []byte) string { return digest.Of(b) }

// Key of a seed (P4).
func Key(seed string) string { return signature.Key(seed) }

// Sign signs bytes with a leaf of a seed (P4).
func Sign(seed string, leaf int, b []byte) (string, api.Errno) {
	return signature.Sign(seed, leaf, b)
}

// Verify tells whether a signature of bytes is right (P5).
func Verify(key string, b []byte, sign string) bool {
	return signature.Verify(key, b, sign)
}

// Pack makes bytes of a manifest (P6).
func Pack(m api.Manifest) ([]byte, api.Errno) { return manifest.Pack(m) }

// Unpack reads a manifest; how many bytes it has (P6).
func Unpack(b []byte) (api.Manifest, int, api.Errno) { return manifest.Unpack(b) }

// Boot boots, or does not (P7 to P10).
func Boot(flash []byte, key string, fuse int, faults []int, cut int) api.Report {
	return boot.Boot(flash, key, fuse, faults, cut)
}
