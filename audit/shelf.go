package audit

import (
	"daybook/api"
	"daybook/manifest"
	"daybook/names"
)

// shelf is the files that are looked through, by their names.
type shelf struct {
	files map[string][]byte
	valid bool               // there is a valid manifest
	named map[string]api.Seg // the files that it names: a segment's with its numbers, the book's with none
}

// gather lays files on a shelf. Of several with one name the first counts.
func gather(files []api.File) shelf {
	s := shelf{files: make(map[string][]byte, len(files))}
	for _, f := range files {
		if _, there := s.files[f.Name]; !there {
			s.files[f.Name] = f.Data
		}
	}
	m, bad := manifest.Decode(s.files[names.Manifest]) // where there is no such file, no bytes are no manifest
	if bad == api.OK {
		s.valid, s.named = true, namedBy(m)
	}
	return s
}

func namedBy(m api.Manifest) map[string]api.Seg {
	named := make(map[string]api.Seg, len(m.Segs)+1)
	for _, g := range m.Segs {
		named[names.Segment(g.Num)] = g
	}
	if m.Snap != 0 {
		named[names.Book(m.Snap)] = api.Seg{}
	}
	return named
}

// manifestAmiss is what is wrong with the manifest alone.
func (s shelf) manifestAmiss() []api.Finding {
	_, there := s.files[names.Manifest]
	switch {
	case there && !s.valid:
		return whole(names.Manifest, api.ErrManifest)
	case !there && s.hasParts():
		return whole(names.Manifest, api.ErrNoFile)
	}
	return nil
}

// hasParts tells whether a segment or a book is there, which are nothing without a manifest.
func (s shelf) hasParts() bool {
	for name := range s.files {
		if kind, _ := names.Parse(name); kind == names.OfSegment || kind == names.OfBook {
			return true
		}
	}
	return false
}

// missing is the files that the manifest names and that aren't there.
func (s shelf) missing() []api.Finding {
	var found []api.Finding
	for name := range s.named {
		if _, there := s.files[name]; !there {
			found = append(found, whole(name, api.ErrNoFile)...)
		}
	}
	return found
}

// strays is the files with one of the store's names that the manifest doesn't name. Without a manifest nobody can tell which they are.
func (s shelf) strays() []api.Finding {
	if !s.valid {
		return nil
	}
	var found []api.Finding
	for name := range s.files {
		_, named := s.named[name]
		if kind, _ := names.Parse(name); kind != names.Alien && kind != names.OfManifest && !named {
			found = append(found, whole(name, api.ErrExists)...)
		}
	}
	return found
}

// whole is what is wrong with a file as a whole.
func whole(name string, code api.Errno) []api.Finding {
	return []api.Finding{{Name: name, Code: code}}
}
