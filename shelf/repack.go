package shelf

import (
	"stemma/api"
	"stemma/pack"
	"stemma/sha"
)

// Repack puts the texts of these IDs into one pack, and removes all others.
func (s *Shelf) Repack(keep []string) api.Errno {
	if err := s.usable(); err != api.OK {
		return err
	}
	texts, err := s.texts(each(keep))
	if err != api.OK {
		return err
	}
	kept := "" // the name of no file
	if len(texts) > 0 {
		if kept, err = s.add(texts); err != api.OK {
			return err
		}
	}
	// Only now: if the power fails before, whatever was kept is still where it was.
	if err := s.removePacks(kept); err != api.OK {
		return err
	}
	return s.removeLoose()
}

// texts returns those of IDs.
func (s *Shelf) texts(ids []string) ([]string, api.Errno) {
	var l []string
	for _, id := range ids {
		data, err := s.Get(id)
		if err != api.OK {
			return nil, err
		}
		l = append(l, data)
	}
	return l, api.OK
}

// add makes a pack of texts, and returns the name of its file.
func (s *Shelf) add(texts []string) (string, api.Errno) {
	text, err := pack.Make(texts)
	if err != api.OK {
		return "", err
	}
	p, err := pack.Open(text)
	if err != api.OK {
		return "", err
	}
	name := prefix + sha.Hex(sha.Sum(text))
	if err := s.write(name, text); err != api.OK {
		return "", err
	}
	s.packs[name] = p
	return name, api.OK
}

// write writes the file of a pack, unless it is there. A file of that name with another text isn't: the other files are
// about to be removed.
func (s *Shelf) write(name, text string) api.Errno {
	if old, err := s.files.Read(name); err == api.OK && old == text {
		return api.OK
	}
	if err := s.files.Write(temporary, text); err != api.OK {
		return err
	}
	return s.files.Rename(temporary, name)
}

// removePacks removes all packs but the one whose file has that name.
func (s *Shelf) removePacks(kept string) api.Errno {
	for _, name := range s.names() {
		if name == kept {
			continue
		}
		if err := s.files.Remove(name); err != api.OK {
			return err
		}
		delete(s.packs, name)
	}
	return api.OK
}

// removeLoose removes all files of single texts.
func (s *Shelf) removeLoose() api.Errno {
	for _, id := range s.loose.List() {
		if err := s.loose.Drop(id); err != api.OK {
			return err
		}
	}
	return api.OK
}
