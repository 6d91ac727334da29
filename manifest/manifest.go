// Package manifest: the bytes of a manifest, made and read.
package manifest

import "keystone/api"

// mark is what every manifest's bytes begin with.
const mark = "KS"

// Where in a manifest's bytes, and in those of a part, things stand.
const (
	versionAt = 2
	countAt   = 4

	offAt    = 0
	lenAt    = 2
	atAt     = 4
	digestAt = 6
)

// Pack makes the bytes of a manifest.
func Pack(m api.Manifest) ([]byte, api.Errno) {
	if !isManifest(m) {
		return nil, api.ErrManifest
	}
	b := make([]byte, 0, size(len(m.Parts)))
	b = append(b, mark...)
	b = appendWord(b, m.Version)
	b = append(b, byte(len(m.Parts)))
	for _, p := range m.Parts {
		b = appendPart(b, p)
	}
	return b, api.OK
}

// Unpack reads the manifest with which bytes begin, and tells how many of them
// are the manifest's.
func Unpack(b []byte) (api.Manifest, int, api.Errno) {
	n, ok := extent(b)
	if !ok {
		return api.Manifest{}, 0, api.ErrManifest
	}
	m := read(b[:n])
	if !isManifest(m) {
		return api.Manifest{}, 0, api.ErrManifest
	}
	return m, n, api.OK
}

// extent is how many bytes the manifest has with which b begins, if b has a
// manifest's head and as many bytes as that says.
func extent(b []byte) (int, bool) {
	if len(b) < api.HeadSize || string(b[:len(mark)]) != mark {
		return 0, false
	}
	n := size(int(b[countAt]))
	return n, n <= len(b)
}

// read takes apart bytes of the right extent; whether the numbers in them are
// a manifest's is not asked here.
func read(b []byte) api.Manifest {
	m := api.Manifest{Version: word(b[versionAt:])}
	for rest := b[api.HeadSize:]; len(rest) > 0; rest = rest[api.PartSize:] {
		m.Parts = append(m.Parts, readPart(rest))
	}
	return m
}

func readPart(b []byte) api.Part {
	return api.Part{
		Off:    word(b[offAt:]),
		Len:    word(b[lenAt:]),
		At:     word(b[atAt:]),
		Digest: string(b[digestAt:api.PartSize]),
	}
}

func appendPart(b []byte, p api.Part) []byte {
	b = appendWord(b, p.Off)
	b = appendWord(b, p.Len)
	b = appendWord(b, p.At)
	return append(b, p.Digest...)
}

func word(b []byte) int { return int(b[0]) | int(b[1])<<8 }

func appendWord(b []byte, n int) []byte { return append(b, byte(n), byte(n>>8)) }

// size is how many bytes a manifest of so many parts has.
func size(parts int) int { return api.HeadSize + parts*api.PartSize }
