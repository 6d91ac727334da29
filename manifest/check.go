package manifest

import "keystone/api"

// isManifest tells whether m is a manifest. Pack and Unpack both ask here, so
// that what one makes is what the other takes.
func isManifest(m api.Manifest) bool {
	if !isWord(m.Version) || !isCount(len(m.Parts)) {
		return false
	}
	for _, p := range m.Parts {
		if !isPart(p) {
			return false
		}
	}
	return true
}

func isPart(p api.Part) bool {
	return isWord(p.Off) && isWord(p.Len) && isWord(p.At) &&
		p.At < p.Len && len(p.Digest) == api.DigestSize
}

func isCount(n int) bool { return n >= 1 && n <= api.MaxCores }

func isWord(n int) bool { return n >= 0 && n <= api.MaxWord }
